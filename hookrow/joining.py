"""Joining cells at which the orders give the same, so that there are fewer."""

from hookrow.calls import Calls
from hookrow.words import is_integer


class Cell:
    """A set of calls, what orders give there, and a text that two cells share if they give the same."""

    def __init__(self, calls, given):
        self.calls = calls
        self.given = given
        self.text = " ".join(sorted([repr(told) for told in given]))


def joined(pairs, names):
    """The pairs of calls and what orders give there, with cells joined along each parameter in turn.

    What orders give in a joined cell stands beside those orders only that give it in the whole of it.
    """
    made = [Cell(calls, found) for calls, found in pairs]
    many = len(made) + 1
    while len(made) < many:
        many = len(made)
        for name in names:
            made = _joined_along(made, name)
    return [(cell.calls, cell.given) for cell in made]


def _joined_along(made, name):
    """The cells, with those joined that lie side by side along a parameter."""
    lines = {}
    for cell in made:
        bounds = tuple([cell.calls.bound(each) for each in cell.calls.hook.names if each != name])
        lines.setdefault((cell.text, bounds), []).append(cell)
    fewer = []
    for line in lines.values():
        fewer.extend(_joined_line(line, name))
    return fewer


def _joined_line(line, name):
    """The same for cells that differ in this parameter alone."""
    fewer = []
    for cell in sorted(line, key=lambda each: _rank(each.calls.bound(name))):
        both = _join(fewer[-1], cell, name) if fewer else None
        if both is None:
            fewer.append(cell)
        else:
            fewer[-1] = both
    return fewer


def _rank(bound):
    """Numbers come by their low ends; there is no need to rank words."""
    first, _ = bound
    return (1, first) if is_integer(first) else (0, 0)


def _join(one, other, name):
    """The cell of two; None if they do not lie side by side, or no order gives the same thing in both."""
    bound = _united(one.calls.bound(name), other.calls.bound(name))
    if bound is None:
        return None
    given = {told: sorted(set(one.given[told]) & set(other.given[told])) for told in one.given}
    if not all(list(given.values())):
        return None
    bounds = {each: one.calls.bound(each) for each in one.calls.hook.names}
    return Cell(Calls(one.calls.hook, {**bounds, name: bound}), given)


def _united(one, other):
    """The bound of the values that are within either of two bounds, which share none, or None if there is no such.

    Of two bounds of numbers the lower one comes first.
    """
    if isinstance(one[1], bool):
        return _united_words(one, other)
    low, end = one
    start, high = other
    if end is None or start != end + 1:
        return None
    return (low, high)


def _united_words(one, other):
    words, inside = one
    others, beside = other
    if inside and beside:
        return (words + others, True)
    left_out, let_in = (others, words) if inside else (words, others)
    return ([word for word in left_out if word not in let_in], False)
