"""Joining cells at which the orders give the same, so that there are fewer."""

from hookrow.calls import Calls
from hookrow.words import is_integer


class Cell:
    """A set of calls, what orders give there, and a text that two cells share if they give the same."""

    def __init__(self, calls, given):
        self.calls = calls
        self.given = given
        self.text = " ".join(sorted([repr(told) for told in given]))


def joined(pairs, names):
    """The pairs of calls and what orders give there, with cells joined along each parameter in turn.

    What orders give in a joined cell stands beside those orders only that give it in the whole of it.
    """
    made = [Cell(calls, found) for calls, found in pairs]
    many = len(made) + 1
    while len(made) < many:
        many = len(made)
        for name in names:
            made = _joined_along(made, name)
    return [(cell.calls, cell.given) for cell in made]


def _joined_along(made, name):
    """The cells, with those joined that lie side by side along a parameter."""
    lines = {}
    for cell in made:
        bounds = tuple([cell.calls.bound(each) for each in cell.calls.hook.names if each != name])
        lines.setdefault((cell.text, bounds), []).append(cell)
    fewer = []
    for line in lines.values():
        fewer.extend(_joined_line(line, name))
    return fewer


def _joined_line(line, name):
    """The same for cells that differ in this parameter alone."""
    fewer = []
    for cell in sorted(line, key=lambda each: _rank(each.calls.bound(name))):
        both = _join(fewer[-1], cell, name) if fewer else None
        if both is None:
            fewer.append(cell)
        else:
            fewer[-1] = both
    return fewer


def _rank(bound):
    """Numbers come by their low ends, and words that are left out ahead of words that are let in."""
    first, second = bound
    return (1, first) if is_integer(first) else (0, second)


def _join(one, other, name):
    """The cell of two; None if they do not lie side by side, or no order gives the same thing in both."""
    bound = _united(one.calls.bound(name), other.calls.bound(name))
    if bound is None:
        return None
    given = {told: sorted(set(one.given[told]) & set(other.given[told])) for told in one.given}
    if not all(list(given.values())):
        return None
    bounds = {each: one.calls.bound(each) for each in one.calls.hook.names}
    return Cell(Calls(one.calls.hook, {**bounds, name: bound}), given)


def _united(one, other):
    """The bound of the values within either of two bounds by rank, which share none; None if there is no such bound.

    So the first one of numbers has a high end, and the second one of words lets them in.
    """
    first, second = one
    start, high = other
    if isinstance(second, bool):
        return (first + start, True) if second else ([word for word in first if word not in start], False)
    return (first, high) if start == second + 1 else None
