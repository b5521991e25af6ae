"""Hosts told without the package: the rows of their hooks, all orders, and what a call gives in one of them."""

import itertools

from hookrow.terms import Failure

LAYERS = ["early", "middle", "late"]


def parts_of(host, hook):
    """The parts of a hook by the names of their plugins, the eldest first."""
    return {name: part for name in host.by_age for part in host[name].parts if part.hook == hook}


def pairs_of(parts):
    """The set of the pairs of the row of some parts."""
    found = set()
    for x, y in itertools.permutations(parts, 2):
        one, other = parts[x], parts[y]
        if one.wraps and not other.wraps:
            found.add((x, y))
        if one.wraps == other.wraps and LAYERS.index(one.layer) < LAYERS.index(other.layer):
            found.add((x, y))
        if y in one.before or x in other.after:
            found.add((x, y))
    return found


def keeps(order, pairs):
    return all(order.index(x) < order.index(y) for x, y in pairs)


def orders_of(names, pairs):
    """All orders that keep the pairs, ascending by the ages of their items."""
    return [order for order in itertools.permutations(names) if keeps(order, pairs)]


def orders_in(host, hook):
    parts = parts_of(host, hook)
    return orders_of(list(parts), pairs_of(parts))


def neighbours(order):
    return list(zip(order, order[1:]))


def swapped(order, at):
    items = list(order)
    items[at], items[at + 1] = items[at + 1], items[at]
    return tuple(items)


def holds(test, call):
    """Whether a test is true; `call` may have `inner`, which is None for no answer."""
    kind = test[0]
    if kind == "not":
        return not holds(test[1], call)
    if kind == "both":
        return holds(test[1], call) and holds(test[2], call)
    if kind == "either":
        return holds(test[1], call) or holds(test[2], call)
    if kind == "lacks":
        return call["inner"] is None
    value = call[test[1]]
    if value is None:
        return False
    return value <= test[2] if kind == "most" else value == test[2]


def told(tree, call, plugin):
    """What an expression without `ask` tells."""
    kind = tree[0]
    if kind == "if":
        return told(tree[2] if holds(tree[1], call) else tree[3], call, plugin)
    if kind in ("number", "word"):
        return tree[1]
    if kind == "none":
        return None
    if kind == "fail":
        return Failure(tree[1], plugin)
    value = call[tree[1]]
    return value + tree[2] if kind == "plus" and value is not None else value


def reckon(host, hook, call, order):
    """The result of a call in an order, and what happened in time."""
    parts = parts_of(host, hook)
    its = host.hook_of(hook)
    events = []

    def around(rest, call):
        if not rest or not parts[rest[0]].wraps:
            return plain(rest, call)
        name = rest[0]
        events.append(("asked", name, tuple(call[each] for each in its.names)))
        result = wrapper(name, parts[name].body, rest[1:], call)
        events.append(("told", name, result))
        return result

    def wrapper(name, tree, inside, call):
        if tree[0] == "if":
            return wrapper(name, tree[2] if holds(tree[1], call) else tree[3], inside, call)
        if tree[0] != "ask":
            return told(tree, call, name)
        changed = dict(call)
        for each, expression in tree[1]:
            changed[each] = told(expression, call, name)
        inner = around(inside, changed)
        if not isinstance(inner, Failure):
            return told(tree[2], {**call, "inner": inner}, name)
        return inner if tree[3] is None else told(tree[3], call, name)

    def plain(rest, call):
        call = dict(call)
        answers = []
        for name in rest:
            events.append(("asked", name, tuple(call[each] for each in its.names)))
            answer = told(parts[name].body, call, name)
            events.append(("told", name, answer))
            if isinstance(answer, Failure):
                return answer
            if answer is not None and its.kind == "first":
                return answer
            if answer is not None and its.kind == "through":
                call[its.names[0]] = answer
            if answer is not None:
                answers.append(answer)
        return {"first": None, "each": tuple(answers), "through": call[its.names[0]] if its.names else None}[its.kind]

    return around(tuple(order), dict(call)), tuple(events)


def typed(thing):
    """A thing as a key that differs for values of different kinds, such as 1, True and 1.0."""
    if isinstance(thing, (tuple, list)):
        return (type(thing).__name__, *[typed(item) for item in thing])
    if isinstance(thing, dict):
        return ("dict", *sorted((typed(key), typed(value)) for key, value in thing.items()))
    if isinstance(thing, Failure):
        return ("Failure", typed(thing.word), typed(thing.plugin))
    return (type(thing).__name__, repr(thing))


def results_in(host, hook, call):
    """A dict from the typed results of a call to pairs of the result and all orders that give it."""
    found = {}
    for order in orders_in(host, hook):
        result, _ = reckon(host, hook, call, order)
        found.setdefault(typed(result), (result, []))[1].append(order)
    return found
