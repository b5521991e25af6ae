"""Hosts for the tests, made by chance from a seed."""

import itertools
import random

from bodymaker import Maker
from hookrow.errors import HookError, NoHook, NoKept, NoPlugin
from hookrow.hooks import Hook
from hookrow.hosts import Host
from hookrow.plugins import Part, Plugin
import reckoning

NAMES = ["a", "b", "c", "d", "e", "f", "g"]
WORDS = ["x", "y"]

SHADE = Hook("shade", "first", [("size", "number")])
TINT = Hook("tint", "first", [("size", "number"), ("mode", "word")], gives="word")
TRIM = Hook("trim", "through", [("size", "number"), ("many", "number", 2)])
PAINT = Hook("paint", "through", [("mode", "word")], only=[("size", "number", 0)], gives="word")
LIST = Hook("list", "each", [("size", "number")], only=[("mode", "word", "x")])
TELL = Hook("tell", "each", [("mode", "word"), ("size", "number")], gives="word")
PLAIN = Hook("plain", "first", [])
HOOKS = [SHADE, TINT, TRIM, PAINT, LIST, TELL]


class Small(Maker):
    """Makes bodies of small integers and few words, so that tests are often undecided."""

    def integer(self):
        return self.rng.choice([-2, -1, 0, 1, 2])

    def word(self):
        return self.rng.choice(WORDS)


def made(hook, *bodies):
    """A host of one hook with a plugin for each body or part, by age, with the names a, b, c and so on."""
    host = Host([hook])
    for name, body in zip(NAMES, bodies):
        host.add(Plugin(name, [body if isinstance(body, Part) else Part(hook.name, body)]))
    return host


def fault(work):
    """The class and the attributes of the error that a piece of work raises, or None."""
    try:
        work()
    except (HookError, NoHook, NoPlugin, NoKept) as error:
        return (type(error), vars(error))
    return None


def sorts_of(hook):
    return {name: sort for name, sort, _ in hook.params + hook.only}


def body_for(rng, hook, wraps=False, deep=3):
    return Small(hook, rng).body(wraps, deep)


def part_for(rng, hook, own, *, names=NAMES, wrapping=0.3, wishing=0.25, deep=3, layers=0.25):
    """A part for a hook, in which wishes name any plugins but its own."""
    wraps = hook.kind != "each" and rng.random() < wrapping
    others = [name for name in names if name != own]
    before = [name for name in others if rng.random() < wishing / 2]
    after = [name for name in others if rng.random() < wishing / 2]
    layer = rng.choice(["early", "late"]) if rng.random() < layers else "middle"
    body = body_for(rng, hook, wraps, deep)
    return Part(hook.name, body, before=before, after=after, layer=layer, wraps=wraps)


def plugin_for(rng, name, hooks, *, bringing=1.0, **how):
    """A plugin with parts for some of the hooks, not more wrappers than callers may have."""
    return Plugin(name, [part_for(rng, hook, name, **how) for hook in hooks if rng.random() < bringing])


def host_for(rng, hooks, many, *, rings=False, bringing=1.0, **how):
    """A host with some plugins; without a ring, unless rings may be."""
    while True:
        host = Host(hooks)
        for name in rng.sample(NAMES, many):
            host.add(plugin_for(rng, name, hooks, bringing=bringing, **how))
        wrappers = [sum(part.wraps for part in reckoning.parts_of(host, hook.name).values()) for hook in hooks]
        if max(wrappers, default=0) <= 2 and (rings or all(has_order(host, hook.name) for hook in hooks)):
            return host


def has_order(host, hook):
    return bool(reckoning.orders_in(host, hook))


def drawn(number, seed, hooks=HOOKS, many=(0, 1, 2, 3, 3, 4), **how):
    """Hosts of one hook each, and the name of the hook."""
    rng = random.Random(seed)
    hosts = []
    for at in range(number):
        hook = hooks[at % len(hooks)]
        hosts.append((host_for(rng, [hook], rng.choice(many), **how), hook.name))
    return hosts


def some_call(rng, hook, reach=6):
    sorts = sorts_of(hook)
    return {
        name: rng.randrange(-reach, reach + 1) if sorts[name] == "number" else rng.choice([*WORDS, "z"])
        for name in hook.names
    }


def grid(hook, reach=5):
    """Calls with each small integer and each word; one word stands for all that bodies do not name."""
    sorts = sorts_of(hook)
    columns = [range(-reach, reach + 1) if sorts[name] == "number" else [*WORDS, "z"] for name in hook.names]
    return [dict(zip(hook.names, values)) for values in itertools.product(*columns)]


def calls_beside(cases, hook):
    """Calls at the ends of all bounds of a table, and beside them."""
    sorts = sorts_of(hook)
    columns = []
    for name in hook.names:
        values = {0} if sorts[name] == "number" else {*WORDS, "z"}
        for case in cases:
            bound = case.calls.bound(name)
            if sorts[name] == "number":
                values |= {end + by for end in bound if end is not None for by in (-1, 0, 1)}
            else:
                values |= set(bound[0])
        columns.append(sorted(values))
    return [dict(zip(hook.names, values)) for values in itertools.product(*columns)]


class Full(Maker):
    """Makes bodies with as many tests and trees `plus` as are told, if they fit."""

    def __init__(self, hook, rng, reach):
        super().__init__(hook, rng)
        self.reach = reach

    def integer(self):
        return self.rng.randrange(-self.reach, self.reach + 1)

    def word(self):
        return self.rng.choice(WORDS)

    def leaf(self, sort, plus, inner, always):
        names = self.names(sort, inner)
        if sort == "number" and plus > 0 and names:
            return ("plus", self.rng.choice(names), self.integer())
        if not always and self.rng.random() < 0.3:
            return self.rng.choice([("none",), ("none",), ("fail", self.word())])
        made = [(sort, self.integer() if sort == "number" else self.word())]
        return self.rng.choice(made + [("param", name) for name in names] * 2)

    def one_test(self, inner):
        made = [("most", name, self.integer()) for name in self.names("number", inner)]
        made += [("is", name, self.word()) for name in self.names("word", inner)]
        return self.rng.choice(made + [("lacks",)] if inner else made)

    def tests(self, many, inner):
        if many == 1:
            test = self.one_test(inner)
            return ("not", test) if self.rng.random() < 0.2 else test
        return (self.rng.choice(["both", "either"]), self.tests(many - 1, inner), self.one_test(inner))

    def tree(self, sort, tests, plus, inner=False, always=False):
        """An expression with a number of tests, and at most that of trees `plus`."""
        if tests == 0:
            return self.leaf(sort, plus, inner, always)
        here = self.rng.choice([1, 1, 1, 2]) if tests > 1 else 1
        left = self.rng.randrange(tests - here + 1)
        taken = self.rng.randrange(plus + 1)
        return (
            "if", self.tests(here, inner), self.tree(sort, left, taken, inner, always),
            self.tree(sort, tests - here - left, plus - taken, inner, always))

    def around(self, tests, plus):
        """The body of a wrapper that asks and changes parameters."""
        counts = [0] * 4
        for _ in range(tests):
            counts[self.rng.randrange(4)] += 1
        pluses = [0] * 4
        for _ in range(plus):
            pluses[self.rng.randrange(4)] += 1
        names = self.rng.sample(list(self.sorts), min(2, len(self.sorts)))
        sends = tuple(
            (name, self.tree(self.sorts[name], counts[at], pluses[at], False, True)) for at, name in enumerate(names))
        failed = self.rng.choice([None, self.tree(self.gives, counts[3], pluses[3])])
        return ("ask", sends, self.tree(self.gives, counts[2], pluses[2], True), failed)


def shares(rng, number, many):
    found = [0] * many
    for _ in range(number):
        found[rng.randrange(many)] += 1
    return found


def full_parts(rng, hook, reach=1000, wrappers=2):
    """Five parts for a hook that together have ten tests and up to four trees `plus`."""
    wrappers = 0 if hook.kind == "each" else wrappers
    tests, pluses = shares(rng, 10, 5), shares(rng, 4, 5)
    maker = Full(hook, rng, reach)
    made = []
    for at in range(5):
        wraps = at < wrappers
        body = maker.around(tests[at], pluses[at]) if wraps else maker.tree(hook.gives, tests[at], pluses[at])
        made.append(Part(hook.name, body, wraps=wraps))
    return made


def full_host(rng, hooks, reach=1000, wrappers=2):
    """A host at the limits: five parts for each hook, spread over seven plugins."""
    brought = {name: [] for name in NAMES}
    for hook in hooks:
        for name, part in zip(rng.sample(NAMES, 5), full_parts(rng, hook, reach, wrappers)):
            brought[name].append(part)
    host = Host(hooks)
    for name in rng.sample(NAMES, len(NAMES)):
        host.add(Plugin(name, brought[name]))
    return host


WIDE = [
    Hook("wide", "through", [("aa", "number"), ("bb", "number")], only=[("cc", "number", 0)]),
    Hook("many", "first", [("aa", "number"), ("bb", "number"), ("cc", "word")]),
    Hook("all", "each", [("aa", "number"), ("bb", "number"), ("cc", "number")]),
    Hook("text", "through", [("aa", "word"), ("bb", "number"), ("cc", "word")], gives="word"),
]
