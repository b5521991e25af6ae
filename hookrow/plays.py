"""How the parts of a hook answer: at one call, or at all calls of a set at once."""

from hookrow.bounds import all_within, common, is_void
from hookrow.terms import Failure, Moved, Value

# What is told while parts are asked is a value, None (no answer), or a tuple: `("moved", name, shift)` is the value
# of a parameter plus an integer, `("failed", word, plugin)` a failure, `("all", ..)` the answers of all parts.
# These are plain tuples, and not terms, since they are keys of dicts.


class Undecided(Exception):
    """A test is true at some calls of a set only: at those where a parameter is within a bound."""

    def __init__(self, name, asked):
        self.name = name
        self.asked = asked


class Play:
    """The parts of a hook by the names of their plugins, asked at one call (`calls` is None) or at a set of calls.

    The values that a part gets are a tuple in the order of the names of the hook; behind them comes `inner`.
    """

    def __init__(self, hook, parts, calls, told):
        self.hook = hook
        self.parts = parts
        self.calls = calls
        # What plain parts told so far, by name and values. It still holds if the set of calls gets smaller.
        self.told = told
        self.places = {name: at for at, name in enumerate((*hook.names, "inner"))}
        # What happened, if the play is watched.
        self.events = []

    def found(self, tried, values):
        """A dict from what orders give to those of some orders that give it."""
        found = {}
        for order in tried:
            found.setdefault(self.outcome(order, values), []).append(order)
        return found

    def outcome(self, order, values):
        """What some parts give in an order that begins with the wrappers."""
        if order and self.parts[order[0]].wraps:
            return self.wrapped(order[0], order[1:], values)
        return self.asked_in_turn(order, values)

    def wrapped(self, name, inside, values):
        """What a wrapper gives around the parts inside."""
        tree = self.chosen(self.parts[name].body, values)
        if tree[0] != "ask":
            return self.leaf(tree, name, values)
        _, sends, answered, failed = tree
        result = self.outcome(inside, self.sent(sends, name, values))
        if not is_failure(result):
            return self.answer(answered, name, (*values, result))
        return result if failed is None else self.answer(failed, name, values)

    def asked_in_turn(self, order, values):
        """What plain parts give in an order."""
        kind = self.hook.kind
        answers = ("all",)
        for name in order:
            answer = self.ask(name, values)
            if answer is None:
                continue
            if kind == "first" or is_failure(answer):
                return answer
            if kind == "through":
                values = (answer, *values[1:])
            else:
                answers = (*answers, answer)
        if kind == "through":
            return values[0]
        return answers if kind == "each" else None

    def ask(self, name, values):
        """What a plain part tells."""
        key = (name, values)
        if key not in self.told:
            self.told[key] = self.answer(self.parts[name].body, name, values)
        return self.told[key]

    def sent(self, sends, name, values):
        """The values with those that a wrapper changes."""
        changed = {each: self.answer(tree, name, values) for each, tree in sends}
        return tuple([changed.get(each, value) for each, value in zip(self.hook.names, values)])

    def answer(self, tree, name, values):
        """What an expression without `ask` tells in the part of a plugin."""
        return self.leaf(self.chosen(tree, values), name, values)

    def chosen(self, tree, values):
        """The branch of an expression that counts, which is no `if`."""
        while tree[0] == "if":
            tree = tree[2] if self.is_true(tree[1], values) else tree[3]
        return tree

    def leaf(self, tree, name, values):
        """What an expression that is neither `if` nor `ask` tells in the part of a plugin."""
        kind = tree[0]
        if kind in ("number", "word"):
            return tree[1]
        if kind == "none":
            return None
        if kind == "fail":
            return ("failed", tree[1], name)
        value = values[self.places[tree[1]]]
        if kind == "param" or value is None:
            return value
        return _plus(value, tree[2])

    def is_true(self, test, values):
        """Whether a test is true; raises `Undecided` if that is not the same at all calls of the set."""
        kind = test[0]
        if kind == "not":
            return not self.is_true(test[1], values)
        if kind == "both":
            return self.is_true(test[1], values) and self.is_true(test[2], values)
        if kind == "either":
            return self.is_true(test[1], values) or self.is_true(test[2], values)
        if kind == "lacks":
            return values[self.places["inner"]] is None
        value = values[self.places[test[1]]]
        if value is None:
            return False
        if isinstance(value, tuple):
            _, name, shift = value
            return self.is_within(name, (None, test[2] - shift) if kind == "most" else ((test[2],), True))
        return value <= test[2] if kind == "most" else value == test[2]

    def is_within(self, name, asked):
        """Whether a parameter is within a bound at all calls of the set, or at none."""
        bound = self.calls.bound(name)
        if all_within(bound, asked):
            return True
        if is_void(common(bound, asked)):
            return False
        raise Undecided(name, asked)


def is_failure(told):
    """Whether what is told is a failure."""
    return isinstance(told, tuple) and told[0] == "failed"


def values_of(hook, call):
    """The values of a call in the order of the names."""
    return tuple([call[name] for name in hook.names])


def result_of(told):
    """The result of one call."""
    if not isinstance(told, tuple):
        return told
    if is_failure(told):
        return Failure(told[1], told[2])
    return told[1:]


def term_of(told):
    """The result at a set of calls."""
    if not isinstance(told, tuple):
        return Value(told)
    if is_failure(told):
        return Failure(told[1], told[2])
    if told[0] == "moved":
        return Moved(told[1], told[2])
    return tuple([term_of(each) for each in told[1:]])


def _plus(value, many):
    if isinstance(value, tuple):
        return ("moved", value[1], value[2] + many)
    return value + many
