"""Scenes: what is there when a hook of a host is called."""

from hookrow.errors import Barred, NoOrder
from hookrow.plays import Play, values_of


class Scene:
    """A hook, its parts by the names of their plugins, and the row that their orders keep."""

    def __init__(self, hook, parts, wishes):
        self.hook = hook
        self.parts = parts
        self.wishes = wishes

    def tried(self):
        """All orders that keep the row."""
        return list(self.wishes.orders())

    def found(self, call):
        """A dict from what orders give at a call to the orders that give it."""
        return Play(self.hook, self.parts, None, {}).found(self.tried(), values_of(self.hook, call))


def scene_of(host, hook, pairs=()):
    """The scene of a hook of a host, with some more pairs in its row."""
    row = host.row(hook)
    for one, other in pairs:
        row = row.with_wish(one, other)
    ring = row.ring
    if ring is not None:
        raise Barred(hook, ring)
    return Scene(host.hook_of(hook), parts_of(host, hook), row)


def parts_of(host, hook):
    """The parts of a hook of a host by the names of their plugins, the eldest first."""
    parts = {name: host[name].part(hook) for name in host.by_age}
    return {name: part for name, part in parts.items() if part is not None}


def kept_order(row, order):
    """The order as a tuple; raises `NoOrder` if it does not keep a row without a ring."""
    for at, name in enumerate(order):
        begun = order[:at]
        waits = any([one not in begun for one, other in row.pairs if other == name])
        if name not in row.names or name in begun or waits:
            raise NoOrder(at)
    if len(order) < len(row.names):
        raise NoOrder(len(order))
    return tuple(order)
