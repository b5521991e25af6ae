"""The checker: point [41], with the points named there."""

import inspect
import itertools
import random
import unittest

from hookrow import checker
from hookrow.checker import holds_alike, holds_chain, holds_exchanges, holds_parted, holds_results, holds_ring
from hookrow.checker import holds_settle, holds_sure
from hookrow.hosts import Host
from hookrow.likeness import alike
from hookrow.plugins import Part, Plugin
from hookrow.results import parted, results
from hookrow.rows import Row
from hookrow.settling import settle, settled
from hookrow.tables import sure
from hookrow.terms import Failure, Moved, Value
from hostmaker import LIST, PLAIN, SHADE, TINT, TRIM, drawn, grid, has_order, host_for, made, some_call
import reckoning
from reckoning import typed

NONE = ("none",)


class Hostile:
    """A thing that fails whatever is asked of it."""

    def fail(self, *args):
        raise RuntimeError("asked")

    __eq__ = __ne__ = __hash__ = __len__ = __iter__ = __bool__ = __getitem__ = __lt__ = __gt__ = __contains__ = fail
    __call__ = __index__ = __int__ = __str__ = __repr__ = fail


def deep(many):
    thing = ()
    for _ in range(many):
        thing = (thing,)
    return thing


THINGS = [
    None, True, False, 0, 1, 2, -1, 10 ** 40, 0.0, 1.0, float("nan"), float("inf"), 1j, "", "a", "b", "size", "none", b"a",
    (), (()), ((),), ("a",), ("a", "b"), ("a", "a"), ("a", 1), (1, "a"), (1, 2, 3), (None,), (None, None), ("a", "b", "c"),
    ((1, 1, ("a",)),), (("a", "b"), 0), (("a", "b"), True), ({"size": 0}, ("a", "b"), 0), (("a", "b"),), [], ["a"],
    ["a", "b"], [("a", "b")], [(None, 1, ())], {}, {"size": 0}, {"size": True}, {"size": "a"}, {"size": 1.0}, {"size": None},
    {0: 0}, {None: 1}, {"size": 0, "many": 0}, {"mode": "x"}, {"size": 0, "mode": "x"}, {"size": 0, 1: 2}, set(), {"a", "b"},
    frozenset(["a"]), range(2), object(), object, len, lambda: 0, iter([1]), Hostile(), (Hostile(),), (Hostile(),) * 2,
    (Hostile(),) * 3, ((Hostile(), Hostile()),), ((Hostile(),) * 3,), {"size": Hostile()}, deep(3), deep(500),
    Failure("x", "a"), Value(1), Moved("size"), Row(["a"]), SHADE, Host([SHADE]), Exception("a"), NotImplemented, ...,
    ([], 0), (["a", "b"], 0), (("a", "b"), "0"), (("a", "b"), -1), (("a", "b"), 10 ** 30),
    "ab", ("ab",), (("a", "b"), ("b", "a")), (["a", "b"], ["b", "a"]), ("a", ["b"]), bytearray(b"a"), memoryview(b"a"),
]


def otherwise(thing):
    """The thing with one thing otherwise, at any depth."""
    if isinstance(thing, tuple):
        yield list(thing)
        yield (*thing, None)
        yield (thing,)
        if thing:
            yield thing[:-1]
            yield thing[1:]
            yield (*thing, thing[-1])
            yield thing[::-1]
        for at, item in enumerate(thing):
            for other in otherwise(item):
                yield (*thing[:at], other, *thing[at + 1:])
            yield (*thing[:at], *thing[at + 1:])
    elif isinstance(thing, dict):
        yield list(thing.items())
        yield tuple(thing.items())
        for key in thing:
            yield {each: value for each, value in thing.items() if each != key}
            yield {**thing, key: None}
            for other in otherwise(thing[key]):
                yield {**thing, key: other}
            yield {(each if each != key else (key,)): value for each, value in thing.items()}
        yield {**thing, "other": 0}
        yield {**thing, None: 0}
    elif isinstance(thing, bool):
        yield int(thing)
    elif isinstance(thing, int):
        yield from [float(thing), str(thing), thing + 1, thing - 1, -thing - 1, None, bool(thing), (thing,), complex(thing)]
    elif isinstance(thing, str):
        yield from [thing + "x", thing[:-1], "", thing.encode(), (thing,), list(thing), 0, None, thing.upper(), Hostile()]
    elif isinstance(thing, Failure):
        yield from [
            Failure(thing.word, "zz"), Failure("zz", thing.plugin), Failure(thing.plugin, thing.word),
            (thing.word, thing.plugin), str(thing), Failure(Hostile(), Hostile()), Failure(None, thing.plugin),
            thing.word, None, ("failed", thing.word, thing.plugin),
        ]
    elif thing is None:
        yield from [0, False, (), "none", (None,), {}, [], Failure("x", "a")]


class CheckerCase(unittest.TestCase):
    def check(self, holds, right, wrong_or_right, oracle):
        """`holds` lets by all that is right, and of the rest what the oracle does; it is always a boolean."""
        for thing in right:
            self.assertIs(holds(thing), True, thing)
        for thing in right:
            for other in otherwise(thing):
                self.assertIs(holds(other), oracle(other))
        for thing in [*wrong_or_right, *THINGS]:
            self.assertIs(holds(thing), oracle(thing))


def safe(thing):
    """Whether a thing consists of nothing but tuples, dicts, integers, strings, None and failures."""
    if type(thing) in (int, str) or thing is None:
        return True
    if type(thing) is tuple:
        return depth(thing) < 20 and all(safe(item) for item in thing)
    if type(thing) is dict:
        return all(type(key) is str and safe(value) for key, value in thing.items())
    return type(thing) is Failure and safe(thing.word) and safe(thing.plugin)


def depth(thing):
    many = 0
    while type(thing) is tuple and thing:
        thing = thing[0]
        many += 1
    return many


def among(right):
    """The oracle for which the right things are a list."""
    keys = {typed(thing) for thing in right}
    return lambda thing: safe(thing) and typed(thing) in keys


def rows(number, seed):
    rng = random.Random(seed)
    yield Row([])
    yield Row("a")
    yield Row("abcd", [("a", "b"), ("a", "c"), ("b", "d"), ("c", "d")])
    yield Row("dcba", [("a", "b"), ("b", "a"), ("c", "d"), ("d", "c"), ("b", "c")])
    yield Row("abcde", [pair for pair in itertools.permutations("abcde", 2) if "a" in pair])
    for _ in range(number):
        names = rng.sample("abcdef", rng.choice([2, 3, 4, 5, 5]))
        yield Row(names, [tuple(rng.sample(names, 2)) for _ in range(rng.randrange(1, 2 * len(names) + 4))])


def ways(row, many):
    """All tuples of as many names, each directly ahead of the next."""
    return [
        names for names in itertools.product(row.names, repeat=many)
        if all(pair in row.pairs for pair in zip(names, names[1:]))
    ]


class OfRows(CheckerCase):
    def test_rings(self):
        seen = 0
        for row in rows(80, 1):
            rings = []
            for many in range(2, len(row.names) + 1):
                for ring in itertools.permutations(row.names, many):
                    closed = all(pair in row.pairs for pair in zip(ring, (*ring[1:], ring[0])))
                    if closed and row.names.index(ring[0]) == min(row.names.index(name) for name in ring):
                        rings.append(ring)
            shortest = [ring for ring in rings if len(ring) == len(rings[0])]
            right = shortest or [None]
            seen += len(right) > 1
            self.assertIn(row.ring, right)
            others = list(itertools.permutations(row.names, len(rings[0]) if rings else 2))
            self.check(lambda value: holds_ring(row, value), right, rings + others, among(right))
        self.assertGreater(seen, 3)

    def test_chains(self):
        seen = 0
        for row in rows(40, 2):
            for one, other in itertools.permutations(row.names, 2):
                right = []
                for many in range(2, len(row.names) + 1):
                    found = [way for way in ways(row, many) if (way[0], way[-1]) == (one, other)]
                    right = right or found
                right = right or [None]
                seen += len(right) > 1
                self.assertIn(row.chain(one, other), right)
                others = itertools.permutations(row.names, len(right[0] or "ab"))
                self.check(lambda value: holds_chain(row, one, other, value), right, others, among(right))
        self.assertGreater(seen, 3)

    def test_exchanges(self):
        rng = random.Random(3)
        seen = 0
        for row in [Row("abc"), Row("abcd", [("a", "b")]), Row("abcd", [("d", "a"), ("b", "c")]), Row([]), Row("a")]:
            tried = list(row.orders())
            for _ in range(9):
                one, other = rng.choice(tried), rng.choice(tried)
                right = self.shortest(row, one, other)
                seen += len(right) > 1
                self.assertIn(row.exchanges(one, other), right)
                back = [way[::-1] for way in right]
                longer = [(one, *way) for way in right] + [(*way, way[-2], way[-1]) for way in right if len(way) > 1]
                # Ways as long as the right ones that begin or end elsewhere, or have anything in between.
                beside = [self.shortest(row, rng.choice(tried), other)[0] for _ in range(6)]
                beside += [self.shortest(row, one, rng.choice(tried))[0] for _ in range(6)]
                beside += [way[:at] + (order,) + way[at + 1:] for way in right for at in range(len(way)) for order in tried]
                oracle = among(right)
                self.check(lambda value: holds_exchanges(row, one, other, value), right, back + longer + beside, oracle)
                self.check(lambda value: holds_exchanges(row, list(one), list(other), value), right, [], oracle)
        self.assertGreater(seen, 3)

    def shortest(self, row, one, other):
        """All ways of exchanges with the fewest orders."""
        found = [(one,)]
        while True:
            ends = [way for way in found if way[-1] == other]
            if ends:
                return ends
            found = [
                (*way, reckoning.swapped(way[-1], at)) for way in found for at in range(len(one) - 1)
                if reckoning.keeps(reckoning.swapped(way[-1], at), row.pairs) and reckoning.swapped(way[-1], at) not in way
            ]


class OfCalls(CheckerCase):
    def hosts(self, number, seed, **how):
        rng = random.Random(seed)
        for host, name in drawn(number, seed, many=(0, 1, 2, 3, 4), **how):
            yield host, name, some_call(rng, host.hook_of(name))

    def is_right_results(self, expected, thing):
        """Whether a thing tells each result once, with its number and one of its orders, in any order."""
        if type(thing) is not tuple or len(thing) != len(expected):
            return False
        left = dict(expected)
        for triple in thing:
            if type(triple) is not tuple or len(triple) != 3 or not safe(triple) or typed(triple[0]) not in left:
                return False
            _, tried = left.pop(typed(triple[0]))
            if typed(triple[1]) != typed(len(tried)) or typed(triple[2]) not in {typed(order) for order in tried}:
                return False
        return True

    def test_results(self):
        for host, name, call in self.hosts(70, 4):
            expected = reckoning.results_in(host, name, call)
            choices = [[(result, len(tried), order) for order in tried[:3]] for result, tried in expected.values()]
            right = [results(host, name, call)]
            for triples in itertools.islice(itertools.product(*choices), 6):
                right.extend(itertools.islice(itertools.permutations(triples), 6))
            self.check(
                lambda value: holds_results(host, name, call, value), right, [],
                lambda value: self.is_right_results(expected, value))

    def test_results_of_each_kind_of_value(self):
        host = Host([LIST])
        for name, body in [("a", ("param", "size")), ("b", ("number", 1)), ("c", NONE)]:
            host.add(Plugin(name, [Part("list", body)]))
        call = {"size": 0, "mode": "x"}
        (one, two) = results(host, "list", call)
        for value, expected in [
            ((one, two), True), ((two, one), True), ((one, one), False), ((two, two), False), ((one,), False), ([one, two], False),
            ((((False, True), 3, one[2]), two), False), (((list(one[0]), 3, one[2]), two), False),
            (((one[0], 3.0, one[2]), two), False), (((one[0], 3, list(one[2])), two), False), ((list(one), two), False),
            (((one[0], 3, two[2]), two), False), (((one[0], 6, one[2]), two), False), (((one[0], True, one[2]), two), False),
        ]:
            self.assertIs(holds_results(host, "list", call, value), expected)

    def test_parted(self):
        seen = 0
        for host, name, call in self.hosts(150, 5, wishing=0.1):
            tried = reckoning.orders_in(host, name)
            told = {order: typed(reckoning.reckon(host, name, call, order)[0]) for order in tried}
            right = [
                (order, at) for order in tried for at in range(len(order) - 1)
                if reckoning.swapped(order, at) in told and told[order] != told[reckoning.swapped(order, at)]
            ]
            everything = [(order, at) for order in itertools.permutations(host.by_age) for at in range(-2, 4)]
            seen += bool(right)
            right = right or [None]
            self.assertIn(parted(host, name, call), right)
            self.check(lambda value: holds_parted(host, name, call, value), right, everything, among(right))
        self.assertGreater(seen, 10)

    def test_sure(self):
        rng = random.Random(6)
        seen = 0
        for host, name, _ in self.hosts(120, 6, wishing=0.1):
            hook = host.hook_of(name)
            told = sure(host, name)
            right, more = [told], []
            for call in rng.sample(grid(hook, 3), min(8, len(grid(hook, 3)))):
                parts = parted(host, name, call)
                right.extend([(call, *parts)] if parts is not None else [])
                more.extend((call, order, at) for order in reckoning.orders_in(host, name)[:4] for at in (-1, 0, 1, 2))
            seen += told is not None
            self.check(
                lambda value: holds_sure(host, name, value), right, more,
                lambda value: self.is_right_sure(host, name, told, value))
        self.assertGreater(seen, 10)

    def is_right_sure(self, host, name, told, value):
        if value is None:
            return told is None
        if type(value) is not tuple or len(value) != 3 or not safe(value):
            return False
        call, order, at = value
        tried = reckoning.orders_in(host, name)
        if not is_call(host.hook_of(name), call) or order not in tried or type(at) is not int:
            return False
        if at not in range(len(order) - 1) or reckoning.swapped(order, at) not in tried:
            return False
        one, other = [reckoning.reckon(host, name, call, each)[0] for each in (order, reckoning.swapped(order, at))]
        return typed(one) != typed(other)


def is_call(hook, thing):
    """Whether a thing is a call of a hook, told without the package."""
    if type(thing) is not dict or set(thing) != set(hook.names) or not safe(thing):
        return False
    sorts = {name: sort for name, sort, _ in hook.params + hook.only}
    return all(
        type(value) is int if sorts[name] == "number"
        else type(value) is str and 1 <= len(value) <= 8 and all("a" <= sign <= "z" for sign in value)
        for name, value in thing.items())


class OfHosts(CheckerCase):
    def right_alike(self, host, other, name, told, value):
        if value is None:
            return told is None
        if not is_call(host.hook_of(name), value):
            return False
        rings = [not has_order(each, name) for each in (host, other)]
        if any(rings):
            return not all(rings)
        one, two = [set(reckoning.results_in(each, name, value)) for each in (host, other)]
        return one != two

    def test_alike(self):
        rng = random.Random(7)
        counts = {True: 0, False: 0}
        for hook in (SHADE, TINT, TRIM, LIST, PLAIN):
            for _ in range(14):
                how = {"rings": True, "deep": 0 if hook == PLAIN else 1, "wishing": 0.6}
                one, other = [host_for(rng, [hook], rng.randrange(3), **how) for _ in range(2)]
                told = alike(one, other, hook.name)
                counts[told is None] += 1
                calls = rng.sample(grid(hook, 3), min(10, len(grid(hook, 3))))
                self.check(
                    lambda value: holds_alike(one, other, hook.name, value), [told], calls,
                    lambda value: self.right_alike(one, other, hook.name, told, value))
        self.assertGreater(min(counts.values()), 10)

    def test_alike_where_one_set_is_part_of_the_other(self):
        one, other = made(SHADE, ("number", 1)), made(SHADE, ("number", 1), ("number", 2))
        for first, second in [(one, other), (other, one)]:
            self.assertIs(holds_alike(first, second, "shade", {"size": 7}), True)
            self.assertIs(holds_alike(first, second, "shade", None), False)

    def test_alike_with_rings(self):
        ring = Host([SHADE])
        for name, wish in [("a", "b"), ("b", "a")]:
            ring.add(Plugin(name, [Part("shade", NONE, before=[wish])]))
        fine = Host([SHADE])
        for one, other in [(ring, fine), (fine, ring)]:
            for value, expected in [({"size": 10 ** 9}, True), ({"size": -4}, True), (None, False), ({"size": True}, False),
                                    ({}, False), ({"size": 1, "many": 2}, False)]:
                self.assertIs(holds_alike(one, other, "shade", value), expected)
        self.assertIs(holds_alike(ring, ring, "shade", None), True)
        self.assertIs(holds_alike(ring, ring, "shade", {"size": 1}), False)

    def test_settle(self):
        rng = random.Random(8)
        seen = 0
        for host, name in drawn(50, 8, many=(0, 1, 2, 3, 3), wishing=0.1):
            order = rng.choice(reckoning.orders_in(host, name))
            beside = sorted(reckoning.neighbours(order))
            chosen = [pairs for many in range(len(beside) + 1) for pairs in itertools.combinations(beside, many)]
            right = [
                pairs for pairs in chosen
                if settled(host, name, pairs) is None
                and all(settled(host, name, [each for each in pairs if each != pair]) is not None for pair in pairs)
            ]
            seen += len(right[0]) > 0
            self.assertIn(settle(host, name, order), right)
            everything = [pairs for some in chosen for pairs in itertools.permutations(some)]
            turned = [tuple(pair[::-1] for pair in pairs) for pairs in chosen]
            self.check(lambda value: holds_settle(host, name, order, value), right, everything + turned, among(right))
            self.assertIs(holds_settle(host, name, list(order), right[-1]), True)
        self.assertGreater(seen, 10)


class Conventions(unittest.TestCase):
    def test_signatures(self):
        self.assertEqual(
            {name: str(inspect.signature(work)) for name, work in vars(checker).items() if name.startswith("holds_")},
            {"holds_ring": "(row, value)", "holds_chain": "(row, one, other, value)",
             "holds_exchanges": "(row, one, other, value)", "holds_results": "(host, hook, call, value)",
             "holds_parted": "(host, hook, call, value)", "holds_sure": "(host, hook, value)",
             "holds_alike": "(host, other, hook, value)", "holds_settle": "(host, hook, order, value)"})

    def test_by_name(self):
        row = Row("ab", [("a", "b"), ("b", "a")])
        host = Host([SHADE]) + Plugin("a", [Part("shade", ("number", 1))])
        call = {"size": 1}
        self.assertIs(holds_ring(value=("a", "b"), row=row), True)
        self.assertIs(holds_chain(value=("a", "b"), other="b", one="a", row=row), True)
        self.assertIs(holds_exchanges(value=(("a",),), other=("a",), one=("a",), row=Row("a")), True)
        self.assertIs(holds_results(value=((1, 1, ("a",)),), call=call, hook="shade", host=host), True)
        self.assertIs(holds_parted(value=None, call=call, hook="shade", host=host), True)
        self.assertIs(holds_sure(value=None, hook="shade", host=host), True)
        self.assertIs(holds_alike(value=None, hook="shade", other=host, host=host), True)
        self.assertIs(holds_settle(value=(), order=("a",), hook="shade", host=host), True)

    def test_nothing_changes(self):
        host = Host([SHADE]) + Plugin("a", [Part("shade", ("number", 1))])
        call, value = {"size": 1}, ({"size": 1}, ("a",), 0)
        holds_results(host, "shade", call, value)
        holds_sure(host, "shade", value)
        self.assertEqual((call, value), ({"size": 1}, ({"size": 1}, ("a",), 0)))
        self.assertEqual((host.by_age, host.log(), host.changed), (("a",), [], ()))


if __name__ == "__main__":
    unittest.main()
