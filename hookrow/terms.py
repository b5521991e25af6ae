"""Terms: what a result is at all calls of a set."""

from hookrow.bounds import first_values, only_value
from hookrow.words import is_integer, shown_value


class Value:
    """The same value, or no answer (None), at each call."""

    def __init__(self, value):
        self.value = value

    def __call__(self, call):
        return self.value

    def __eq__(self, other):
        return isinstance(other, Value) and self.value == other.value

    def __str__(self):
        if self.value is None:
            return "none"
        return f"{shown_value(self.value)}"


class Moved:
    """The value of a parameter plus an integer, which is 0 for words."""

    def __init__(self, name, shift=0):
        self.name = name
        self.shift = shift

    def __call__(self, call):
        if self.shift == 0:
            return call[self.name]
        return call[self.name] + self.shift

    def __eq__(self, other):
        return isinstance(other, Moved) and self.name == other.name and self.shift == other.shift

    def __str__(self):
        if self.shift == 0:
            return f"{self.name}"
        sign = "-" if self.shift < 0 else "+"
        return f"{self.name} {sign} {abs(self.shift)}"


class Failure:
    """A failure of the part of a plugin, with a word."""

    def __init__(self, word, plugin):
        self.word = word
        self.plugin = plugin

    def __call__(self, call):
        return self

    def __eq__(self, other):
        return isinstance(other, Failure) and self.word == other.word and self.plugin == other.plugin

    def __str__(self):
        return f"{self.plugin} failed: {self.word}"


def written(term, calls):
    """A term, or a tuple of terms, as it is written in a set of calls that is not empty."""
    if isinstance(term, tuple):
        return tuple([written(item, calls) for item in term])
    if isinstance(term, Moved):
        value = only_value(calls.bound(term.name))
        if value is not None:
            return _at(term, term.name, value)
    return term


def parting(one, other, calls):
    """Some call of a set at which an item of `one` has a value that no item of `other` has there, or None."""
    if not calls:
        return None
    for item in one:
        meetings = [_meeting(item, each) for each in other]
        call = _call_beside(calls, calls.hook.names, [each for each in meetings if each is not None])
        if call is not None:
            return call
    return None


# A meeting tells where two results have the same value: a list of pairs of different terms that each must have
# the same value there. So an empty one is met at all calls. None stands for two results that never meet.


def _meeting(one, other):
    """The meeting of two results."""
    if not isinstance(one, tuple) and not isinstance(other, tuple):
        return _unsettled([(one, other)])
    if not isinstance(one, tuple) or not isinstance(other, tuple) or len(one) != len(other):
        return None
    return _unsettled(list(zip(one, other)))


def _unsettled(pairs):
    """The pairs of terms without those that are equal; None if the terms of one of them never have the same value."""
    left = []
    for one, other in pairs:
        if one != other:
            if not _may_meet(one, other):
                return None
            left.append((one, other))
    return left


def _may_meet(one, other):
    """Whether two terms that differ can have the same value, as far as they themselves tell."""
    if isinstance(one, Moved) and isinstance(other, Moved):
        return one.name != other.name
    return isinstance(one, Moved) or isinstance(other, Moved)


def _call_beside(calls, names, meetings):
    """The values that a call of a set has for some parameters such that it is in none of the meetings, or None."""
    if any([not meeting for meeting in meetings]):
        return None
    if not names:
        return {}
    name = names[0]
    silent = [meeting for meeting in meetings if not _speaks_of(meeting, name)]
    loose, pinned = _by_value([meeting for meeting in meetings if _speaks_of(meeting, name)], name)
    # If a call is in none of the meetings and this parameter alone changes, each meeting that speaks of it is met
    # at one value at most. So if any value will do, then some among one more than there are such meetings.
    for value in first_values(calls.bound(name), len(meetings) - len(silent) + 1):
        later = [_met_at(meeting, name, value) for meeting in loose + pinned.get(value, [])]
        call = _call_beside(calls, names[1:], silent + [meeting for meeting in later if meeting is not None])
        if call is not None:
            return {**call, name: value}
    return None


def _speaks_of(meeting, name):
    """Whether a parameter is in a meeting."""
    return any([_is_moved(one, name) or _is_moved(other, name) for one, other in meeting])


def _by_value(meetings, name):
    """The meetings of which no pair alone tells the value of a parameter, and a dict of the others by this value."""
    loose, pinned = [], {}
    for meeting in meetings:
        told = [_value_told(one, other, name) for one, other in meeting]
        values = [value for value in told if value is not None]
        if values:
            pinned.setdefault(values[0], []).append(meeting)
        else:
            loose.append(meeting)
    return loose, pinned


def _value_told(one, other, name):
    """The value that a parameter has wherever two terms have the same value, if they alone tell, else None."""
    if _is_moved(other, name):
        return _value_told(other, one, name)
    if not _is_moved(one, name) or not isinstance(other, Value):
        return None
    if one.shift == 0:
        return other.value
    return other.value - one.shift if is_integer(other.value) else None


def _met_at(meeting, name, value):
    """The meeting where a parameter has a value."""
    return _unsettled([(_at(one, name, value), _at(other, name, value)) for one, other in meeting])


def _at(term, name, value):
    """The term where a parameter has a value."""
    if _is_moved(term, name):
        return Value(term({name: value}))
    return term


def _is_moved(term, name):
    return isinstance(term, Moved) and term.name == name
