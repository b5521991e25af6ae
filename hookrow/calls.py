"""Sets of calls: all calls of a hook whose values are within bounds."""

from hookrow.bounds import all_within, beyond, common, first_values, has_value, is_bound, is_void, normal, unbounded
from hookrow.errors import BadCall, InvalidCalls


class Calls:
    """A set of calls of a hook, by a bound of each parameter."""

    def __init__(self, hook, bounds=None):
        self.hook = hook
        self._bounds = _all_bounds(hook, {} if bounds is None else bounds)

    def bound(self, name):
        """The bound of a parameter, in normal form."""
        if name not in self.hook.names:
            raise BadCall("unknown", name)
        return self._bounds[name]

    def within(self, other):
        """Whether each call of this set is in another one."""
        return not self or all([all_within(self.bound(name), other.bound(name)) for name in self.hook.names])

    def where(self, test):
        """Sets, apart from one another, of the calls of this set at which a test is true."""
        true, _ = _split(self, test)
        return tuple(true)

    @property
    def least(self):
        """The call with the first value of each parameter, or None if there is no call."""
        if not self:
            return None
        return {name: first_values(self.bound(name), 1)[0] for name in self.hook.names}

    def __contains__(self, call):
        return all([has_value(self.bound(name), call[name]) for name in self.hook.names])

    def __bool__(self):
        return not any([is_void(self.bound(name)) for name in self.hook.names])

    def __and__(self, other):
        return Calls(self.hook, {name: common(self.bound(name), other.bound(name)) for name in self.hook.names})

    def __sub__(self, other):
        if not other:
            return (self,) if self else ()
        left = []
        # The bounds of this set, but those of both sets for the parameters that have had their turn.
        bounds = {name: self.bound(name) for name in self.hook.names}
        for name in self.hook.names:
            for part in beyond(other.bound(name)):
                calls = Calls(self.hook, {**bounds, name: common(bounds[name], part)})
                if calls:
                    left.append(calls)
            bounds[name] = common(bounds[name], other.bound(name))
        return tuple(left)

    def __eq__(self, other):
        return (
            isinstance(other, Calls) and self.hook == other.hook
            and self.within(other) and other.within(self)
        )


def _all_bounds(hook, bounds):
    """The bounds of all parameters in normal form; raises `InvalidCalls` for the first key with a fault."""
    sorts = {name: sort for name, sort, _ in hook.params + hook.only}
    for name in sorted(bounds):
        if name not in sorts or not is_bound(bounds[name], sorts[name]):
            raise InvalidCalls(name)
    return {name: normal(bounds.get(name, unbounded(sort))) for name, sort in sorts.items()}


def _split(calls, test):
    """The sets of the calls of a set at which a test is true, and the sets of those at which it is false."""
    if test[0] == "not":
        true, false = _split(calls, test[1])
        return false, true
    if test[0] == "both":
        true, false = _split(calls, test[1])
        both, single = _split_all(true, test[2])
        return both, false + single
    if test[0] == "either":
        true, false = _split(calls, test[1])
        second, neither = _split_all(false, test[2])
        return true + second, neither
    kind, name, at = test
    asked = Calls(calls.hook, {name: (None, at) if kind == "most" else ((at,), True)})
    met = calls & asked
    return [met] if met else [], list(calls - asked)


def _split_all(several, test):
    """The same for the calls of several sets."""
    true, false = [], []
    for calls in several:
        more, fewer = _split(calls, test)
        true.extend(more)
        false.extend(fewer)
    return true, false
