"""Calls for the tests of sets of calls: which are looked at, and which are in a set, told without the package."""

import itertools
import random

WORDS = ("a", "b", "c")
# One number beyond each end that the tests take, and one word that stands for all that they do not name.
NUMBERS = tuple(range(-5, 6))
ALL_WORDS = WORDS + ("zz",)


def sorts_of(hook):
    return {name: sort for name, sort, _ in hook.params + hook.only}


def grid(hook):
    """Calls of which each set of calls has one, if it has any, and its ends are from -4 to 4, its words in WORDS."""
    sorts = sorts_of(hook)
    columns = [NUMBERS if sorts[name] == "number" else ALL_WORDS for name in hook.names]
    return [dict(zip(hook.names, values)) for values in itertools.product(*columns)]


def fits(bound, value):
    """Whether a value is within a bound, as it is passed."""
    first, second = bound
    if isinstance(second, bool):
        return (value in first) is second
    return (first is None or first <= value) and (second is None or value <= second)


def inside(bounds, call):
    return all(fits(bound, call[name]) for name, bound in bounds.items())


def some_bound(rng, sort):
    if sort == "number":
        return (rng.choice([None, *range(-4, 5)]), rng.choice([None, *range(-4, 5)]))
    words = [rng.choice(WORDS) for _ in range(rng.randrange(4))]
    return (rng.choice([list, tuple])(words), rng.random() < 0.5)


def some_bounds(rng, hook):
    return {name: some_bound(rng, sort) for name, sort in sorts_of(hook).items() if rng.random() < 0.7}


def many_bounds(hook, number, seed):
    rng = random.Random(seed)
    return [some_bounds(rng, hook) for _ in range(number)]


def holds(test, call):
    """Whether a test is true at a call."""
    kind, *rest = test
    if kind == "most":
        return call[rest[0]] <= rest[1]
    if kind == "is":
        return call[rest[0]] == rest[1]
    if kind == "not":
        return not holds(rest[0], call)
    if kind == "both":
        return holds(rest[0], call) and holds(rest[1], call)
    return holds(rest[0], call) or holds(rest[1], call)


def some_test(rng, hook, deep):
    """A test of the parameters of a hook."""
    sorts = sorts_of(hook)
    kind = rng.choice(["leaf", "not", "both", "either", "both", "either"]) if deep > 0 else "leaf"
    if kind == "leaf":
        name = rng.choice(hook.names)
        if sorts[name] == "number":
            return ("most", name, rng.randrange(-4, 5))
        return ("is", name, rng.choice(WORDS))
    if kind == "not":
        return ("not", some_test(rng, hook, deep - 1))
    return (kind, some_test(rng, hook, deep - 1), some_test(rng, hook, deep - 1))
