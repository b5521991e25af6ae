"""Running a call: its result in one order, and what happens in time."""

from hookrow.plays import Play, result_of, values_of
from hookrow.scenes import kept_order, scene_of


class Watched(Play):
    """A play at one call that keeps what happens."""

    def ask(self, name, values):
        """What a plain part tells."""
        self.events.append(("asked", name, values))
        told = super().ask(name, values)
        self.events.append(("told", name, result_of(told)))
        return told

    def wrapped(self, name, inside, values):
        """What a wrapper gives around the parts inside."""
        self.events.append(("asked", name, values))
        told = super().wrapped(name, inside, values)
        self.events.append(("told", name, result_of(told)))
        return told


def run(host, hook, call, *, order=None):
    """The result of a call of a hook in an order, or in the own order of its row."""
    scene = scene_of(host, hook)
    play = Play(scene.hook, scene.parts, None, {})
    return result_of(play.outcome(_order_in(scene, order), values_of(scene.hook, call)))


def trace(host, hook, call, *, order=None):
    """What happens in time when a hook is called: which plugin is asked with which values, and what it tells."""
    scene = scene_of(host, hook)
    return events_in(scene, call, _order_in(scene, order))


def events_in(scene, call, order):
    """What happens in time at a call in an order that keeps the row."""
    play = Watched(scene.hook, scene.parts, None, {})
    play.outcome(order, values_of(scene.hook, call))
    return tuple(play.events)


def _order_in(scene, order):
    """The order in which the parts are asked."""
    if order is None:
        return scene.wishes.order
    return kept_order(scene.wishes, order)
