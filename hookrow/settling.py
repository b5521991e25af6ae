"""Settling: wishes that make a hook sure."""

from hookrow.scenes import kept_order, scene_of
from hookrow.tables import sure_in


def settle(host, hook, order):
    """Pairs of neighbours in an order with which the hook is sure, none of which can be left out."""
    order = kept_order(scene_of(host, hook).wishes, order)
    left = neighbours(order)
    # More pairs leave fewer orders, so a pair that cannot be left out now cannot be left out of fewer pairs either.
    for pair in neighbours(order):
        fewer = [each for each in left if each != pair]
        if settled(host, hook, fewer) is None:
            left = fewer
    return tuple(left)


def settled(host, hook, pairs):
    """None if the hook is sure with some more pairs in its row, else a call, an order, and an index."""
    return sure_in(scene_of(host, hook, pairs))


def neighbours(order):
    """The ascending list of the pairs of names that stand side by side in an order."""
    return sorted([(order[at], order[at + 1]) for at in range(len(order) - 1)])
