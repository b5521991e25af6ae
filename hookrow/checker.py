"""Whether a thing could be what a function of the package returns."""

from hookrow.likeness import alike
from hookrow.plays import result_of
from hookrow.results import exchanged, parted
from hookrow.scenes import scene_of
from hookrow.settling import neighbours, settled
from hookrow.tables import sure
from hookrow.terms import Failure
from hookrow.words import has_sort, is_integer


def holds_ring(row, value):
    """Whether a thing could be `row.ring`."""
    ring = row.ring
    if ring is None:
        return value is None
    if not _are_strings(value) or len(value) != len(ring) or not _is_way(row, (*value, value[0])):
        return False
    eldest = [name for name in row.names if name in value]
    return value[0] == eldest[0]


def holds_chain(row, one, other, value):
    """Whether a thing could be `row.chain(one, other)`."""
    chain = row.chain(one, other)
    if chain is None:
        return value is None
    if not _are_strings(value) or len(value) != len(chain) or not _is_way(row, value):
        return False
    return value[0] == one and value[-1] == other


def holds_exchanges(row, one, other, value):
    """Whether a thing could be `row.exchanges(one, other)`."""
    if not isinstance(value, tuple) or len(value) != len(row.exchanges(one, other)):
        return False
    if not all([_are_strings(order) and row.keeps(order) for order in value]):
        return False
    steps = [_is_exchange(value[at], value[at + 1]) for at in range(len(value) - 1)]
    return value[0] == tuple(one) and value[-1] == tuple(other) and all(steps)


def holds_results(host, hook, call, value):
    """Whether a thing could be `results(host, hook, call)`."""
    found = [(result_of(told), tried) for told, tried in scene_of(host, hook).found(call).items()]
    if not isinstance(value, tuple) or len(value) != len(found):
        return False
    # As many triples as results, and one for each result: so each result is told once.
    return all([any([_is_triple(each, result, tried) for each in value]) for result, tried in found])


def holds_parted(host, hook, call, value):
    """Whether a thing could be `parted(host, hook, call)`."""
    if value is None:
        return parted(host, hook, call) is None
    return isinstance(value, tuple) and len(value) == 2 and _parts(scene_of(host, hook), call, value[0], value[1])


def holds_sure(host, hook, value):
    """Whether a thing could be `sure(host, hook)`."""
    if value is None:
        return sure(host, hook) is None
    if not isinstance(value, tuple) or len(value) != 3 or not _is_call(host.hook_of(hook), value[0]):
        return False
    return _parts(scene_of(host, hook), value[0], value[1], value[2])


def holds_alike(host, other, hook, value):
    """Whether a thing could be `alike(host, other, hook)`."""
    if value is None:
        return alike(host, other, hook) is None
    if not _is_call(host.hook_of(hook), value):
        return False
    barred = [each.row(hook).ring is not None for each in (host, other)]
    if any(barred):
        return not all(barred)
    found = scene_of(host, hook).found(value)
    beside = scene_of(other, hook).found(value)
    return len(found) != len(beside) or any([told not in beside for told in found])


def holds_settle(host, hook, order, value):
    """Whether a thing could be `settle(host, hook, order)`."""
    side_by_side = neighbours(order)
    if not isinstance(value, tuple) or not all([_are_strings(pair) and pair in side_by_side for pair in value]):
        return False
    if list(value) != sorted(set(value)) or settled(host, hook, value) is not None:
        return False
    return all([settled(host, hook, [each for each in value if each != pair]) is not None for pair in value])


def _are_strings(thing):
    return isinstance(thing, tuple) and all([isinstance(item, str) for item in thing])


def _is_way(row, names):
    """Whether each of some strings is directly ahead of the next one."""
    return all([(names[at], names[at + 1]) in row.pairs for at in range(len(names) - 1)])


def _is_exchange(one, other):
    """Whether two orders differ by an exchange of neighbours."""
    return any([exchanged(one, at) == other for at in range(len(one) - 1)])


def _is_triple(thing, result, tried):
    """Whether a thing tells a result with the number of the orders that give it, and one of them."""
    if not isinstance(thing, tuple) or len(thing) != 3 or not _is_same(thing[0], result):
        return False
    return _is_same(thing[1], len(tried)) and _are_strings(thing[2]) and thing[2] in tried


def _is_same(thing, result):
    """Whether a thing is a result, or an integer; a boolean is none, and neither is any other kind of number."""
    if result is None:
        return thing is None
    if isinstance(result, tuple):
        if not isinstance(thing, tuple) or len(thing) != len(result):
            return False
        return all([_is_same(item, each) for item, each in zip(thing, result)])
    if isinstance(result, Failure):
        same = isinstance(thing, Failure) and _is_same(thing.word, result.word)
        return same and _is_same(thing.plugin, result.plugin)
    if isinstance(result, str):
        return isinstance(thing, str) and thing == result
    return is_integer(thing) and thing == result


def _is_call(hook, thing):
    """Whether a thing is a call of a hook."""
    if not isinstance(thing, dict) or len(thing) != len(hook.names):
        return False
    return all([name in thing and has_sort(thing[name], sort) for name, sort, _ in hook.params + hook.only])


def _parts(scene, call, order, at):
    """Whether two things are an order and an index at which an exchange changes the result of a call."""
    row = scene.wishes
    if not _are_strings(order) or not row.keeps(order) or not is_integer(at) or at not in row.free_at(order):
        return False
    found = scene.found(call)
    return not any([order in tried and exchanged(order, at) in tried for tried in found.values()])
