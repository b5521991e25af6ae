"""Which hosts are alike, which plugins are quiet, and which ones are asked."""

from hookrow.calls import Calls
from hookrow.cells import cells, told_in
from hookrow.running import events_in
from hookrow.scenes import scene_of
from hookrow.terms import parting


def alike(host, other, hook):
    """None if two hosts give the same results at each call of a hook, else a call at which they do not."""
    start = Calls(host.hook_of(hook))
    barred = [each.row(hook).ring is not None for each in (host, other)]
    if any(barred):
        return None if all(barred) else start.least
    one, two = scene_of(host, hook), scene_of(other, hook)
    # Parts bring all wishes with them, and ages make no difference to the set of all orders.
    if one.parts == two.parts:
        return None
    tried, others = one.tried(), two.tried()
    for calls, found in cells(one, tried, start):
        for both, beside in cells(two, others, calls):
            call = _call_between(told_in(both, found), told_in(both, beside), both)
            if call is not None:
                return call
    return None


def quiet(host, name):
    """None if a host and the host without a plugin are alike, else the first hook for which not, and a call."""
    other = host - name
    for hook in host.hooks:
        call = alike(host, other, hook)
        if call is not None:
            return (hook, call)
    return None


def deciders(host, hook, call):
    """The names of the plugins that are asked in some order, ascending."""
    scene = scene_of(host, hook)
    names = {}
    for order in scene.tried():
        for event in events_in(scene, call, order):
            names[event[1]] = True
    return tuple(sorted(names))


def _call_between(told, others, calls):
    """A call of a set at which two dicts of written results do not have the same values, or None."""
    for one, two in ((told, others), (others, told)):
        alone = [result for key, (result, _) in one.items() if key not in two]
        call = parting(alone, [result for result, _ in two.values()], calls)
        if call is not None:
            return call
    return None
