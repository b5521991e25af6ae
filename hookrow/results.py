"""All orders of one call: which results they give, and how many orders give each."""

from hookrow.plays import result_of
from hookrow.scenes import scene_of


def results(host, hook, call):
    """The triples of each result that some order gives, the number of orders that give it, and one of them."""
    found = scene_of(host, hook).found(call)
    return tuple([(result_of(told), len(tried), tried[0]) for told, tried in found.items()])


def parted(host, hook, call):
    """None if there is only one result, else an order and an index at which an exchange changes the result."""
    return parted_in(scene_of(host, hook), call)


def parted_in(scene, call):
    """The same for a scene."""
    found = scene.found(call)
    if len(found) == 1:
        return None
    told = {order: each for each, tried in found.items() for order in tried}
    for order in told:
        for at in scene.wishes.free_at(order):
            if told[order] != told[exchanged(order, at)]:
                return (order, at)
    return None


def exchanged(order, at):
    """The order in which the item at an index and its successor have changed places."""
    return (*order[:at], order[at + 1], order[at], *order[at + 2:])
