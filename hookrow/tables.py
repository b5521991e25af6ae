"""All calls of a hook: a finite table of what its orders give, and whether they all give the same."""

from hookrow.calls import Calls
from hookrow.cells import cells, told_in
from hookrow.joining import joined
from hookrow.results import parted_in
from hookrow.scenes import scene_of
from hookrow.terms import parting


class Case:
    """A set of calls, and the pairs of each result at this set and an order that gives it."""

    def __init__(self, calls, results):
        self.calls = calls
        self.results = tuple(results)

    def __call__(self, call):
        values = []
        for result, _ in self.results:
            value = _value_at(result, call)
            if value not in values:
                values.append(value)
        return tuple(values)


def table(host, hook):
    """Cases such that each call is in exactly one of them."""
    scene = scene_of(host, hook)
    tried = scene.tried()
    start = Calls(scene.hook)
    made = list(cells(scene, tried, start))
    return tuple([_case(calls, found) for calls, found in joined(made, scene.hook.names)])


def sure(host, hook):
    """None if all orders give the same at every call, else a call, an order, and an index for an exchange."""
    return sure_in(scene_of(host, hook))


def sure_in(scene):
    """The same for a scene."""
    tried = scene.tried()
    start = Calls(scene.hook)
    for calls, found in cells(scene, tried, start):
        told = [result for result, _ in told_in(calls, found).values()]
        if len(told) > 1:
            call = parting(told[:1], told[1:2], calls)
            order, at = parted_in(scene, call)
            return (call, order, at)
    return None


def _case(calls, found):
    return Case(calls, [(result, tried[0]) for result, tried in told_in(calls, found).values()])


def _value_at(result, call):
    """The value of a result at a set of calls, at one of them."""
    if isinstance(result, tuple):
        return tuple([term(call) for term in result])
    return result(call)
