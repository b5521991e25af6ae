"""Cells: sets of calls at all of which each order gives the same term."""

from hookrow.calls import Calls
from hookrow.plays import Play, Undecided, term_of
from hookrow.terms import written


def cells(scene, tried, start):
    """Iterates over cells that share no call and together have all calls of a set that is not empty.

    Each comes as a pair of its calls and a dict from what orders give there to the orders that give it.
    """
    todo = [Play(scene.hook, scene.parts, start, {})]
    while todo:
        play = todo.pop()
        found, fault = _found_in(play, tried)
        if fault is None:
            yield (play.calls, found)
        else:
            todo.extend(_halves(play, fault))


def told_in(calls, found):
    """The different results at a set of calls, as they are written there, each with the orders that give it.

    They are the values of a dict; its keys tell whether results of two such dicts for one set are equal.
    """
    told = {}
    for each, tried in found.items():
        result = written(term_of(each), calls)
        told.setdefault(_key(result), (result, []))[1].extend(tried)
    return told


def _found_in(play, tried):
    """What orders give at all calls of the set of a play, and None; or None, and what is undecided."""
    values = tuple([("moved", name, 0) for name in play.hook.names])
    try:
        return (play.found(tried, values), None)
    except Undecided as fault:
        return (None, (fault.name, fault.asked))


def _halves(play, fault):
    """The play at the calls for which a parameter is within a bound, and at those for which it is not."""
    name, asked = fault
    within = Calls(play.hook, {name: asked})
    pieces = [play.calls & within, *(play.calls - within)]
    return [Play(play.hook, play.parts, calls, {key: play.told[key] for key in play.told}) for calls in pieces]


def _key(result):
    """A written result as a key: different terms have different texts."""
    if isinstance(result, tuple):
        return tuple([str(term) for term in result])
    return str(result)
