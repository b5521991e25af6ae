"""The promise [4] over drawn hosts, and the conventions [1] and [2] over the whole interface."""

import random
import unittest

from hookrow.bodies import check_body, children, count
from hookrow.bodytexts import read_body, show_body
from hookrow.calls import Calls
from hookrow.checker import holds_alike, holds_chain, holds_exchanges, holds_parted, holds_results, holds_ring
from hookrow.checker import holds_settle, holds_sure
from hookrow.errors import Barred, InvalidHook
from hookrow.hooks import Hook
from hookrow.hosts import Host
from hookrow.likeness import alike, deciders, quiet
from hookrow.plugins import Part, Plugin
from hookrow.plugintexts import read_plugin
from hookrow.results import parted, results
from hookrow.rows import Row
from hookrow.running import run, trace
from hookrow.settling import settle, settled
from hookrow.tables import Case, sure, table
from hookrow.terms import Failure, Moved, Value, parting, written
from hostmaker import LIST, NAMES, SHADE, TRIM, drawn, grid, has_order, host_for, plugin_for, some_call
import reckoning
from reckoning import typed

HOOKS = [SHADE, TRIM, LIST]


def shown(case):
    """A case as something that can be compared."""
    bounds = {name: case.calls.bound(name) for name in case.calls.hook.names}
    return (bounds, [(str(result) if not isinstance(result, tuple) else tuple(map(str, result)), order)
                     for result, order in case.results])


def answers(host, call_of, others):
    """What a host answers to all kinds of questions."""
    told = [host.by_age, host.hooks]
    for hook in host.hooks:
        call = call_of[hook]
        row = host.row(hook)
        told += [row, row.ring, row.order, [alike(host, other, hook) for other in others]]
        if row.ring is not None:
            continue
        order = list(row.orders())[-1]
        told += [
            typed(run(host, hook, call)), typed(trace(host, hook, call, order=order)), results(host, hook, call),
            parted(host, hook, call), [shown(case) for case in table(host, hook)], sure(host, hook),
            deciders(host, hook, call), settle(host, hook, order), settled(host, hook, []),
        ]
    return told + [quiet(host, name) for name in host.by_age]


def history(rng, host, many):
    """Deeds of all kinds, taken back or not, with trials in between."""
    for _ in range(many):
        kind = rng.choice(["add", "add", "drop", "put", "undo", "trial"])
        name = rng.choice(NAMES[:5])
        its = plugin_for(rng, name, HOOKS, bringing=0.7, deep=1, wishing=0.2)
        if kind == "add" and name not in host:
            host += its
        elif kind == "drop" and name in host:
            host -= name
        elif kind == "put":
            host[name] = its
        elif kind == "undo":
            host.undo()
        elif kind == "trial":
            host.in_trial(lambda inside: history(rng, inside, 3))


class Promise(unittest.TestCase):
    def test_one_order_or_a_ring(self):
        rng = random.Random(1)
        for _ in range(80):
            host = host_for(rng, [SHADE], rng.randrange(6), rings=True, wishing=0.5)
            row = host.row("shade")
            tried = reckoning.orders_in(host, "shade")
            self.assertEqual(row.ring is None, bool(tried))
            self.assertEqual(list(row.orders()), tried)
            self.assertTrue(holds_ring(row, row.ring))

    def test_exchanges(self):
        rng = random.Random(2)
        for host, name in drawn(60, 2, many=(2, 3, 4)):
            row, tried = host.row(name), reckoning.orders_in(host, name)
            one, other = rng.choice(tried), rng.choice(tried)
            way = row.exchanges(one, other)
            turned = sum(other.index(x) > other.index(y) for at, x in enumerate(one) for y in one[at + 1:])
            self.assertEqual((len(way), way[0], way[-1]), (turned + 1, one, other))
            for order, behind in zip(way, way[1:]):
                self.assertIn(behind, [reckoning.swapped(order, at) for at in row.free_at(order)])

    def test_one_call_all_calls_and_sure(self):
        rng = random.Random(3)
        for host, name in drawn(90, 3):
            hook = host.hook_of(name)
            cases, told = table(host, name), sure(host, name)
            for call in rng.sample(grid(hook, 3), min(12, len(grid(hook, 3)))):
                expected = reckoning.results_in(host, name, call)
                found = results(host, name, call)
                self.assertEqual(
                    {typed(result): number for result, number, _ in found},
                    {key: len(tried) for key, (_, tried) in expected.items()})
                (case,) = [each for each in cases if call in each.calls]
                self.assertEqual({typed(value) for value in case(call)}, set(expected))
                if told is None:
                    self.assertEqual(len(expected), 1)
            self.assertTrue(holds_sure(host, name, told))

    def test_alike_and_settled(self):
        rng = random.Random(4)
        for host, name in drawn(60, 4, many=(2, 3)):
            other = host - host.by_age[0]
            self.assertTrue(holds_alike(host, other, name, alike(host, other, name)))
            order = rng.choice(reckoning.orders_in(host, name))
            pairs = settle(host, name, order)
            self.assertTrue(holds_settle(host, name, order, pairs))
            self.assertIsNone(settled(host, name, pairs))

    def test_hosts(self):
        """A host with a history is equal to a new one with its plugins by age, and answers alike."""
        rng = random.Random(5)
        for _ in range(25):
            host = Host(HOOKS)
            for hook in HOOKS:
                host.keep(hook.name, some_call(rng, hook))
            history(rng, host, 15)
            again = Host(HOOKS[::-1])
            for name in host.by_age:
                again.add(host[name])
            self.assertTrue(host == again and again == host)
            calls = {hook.name: some_call(rng, hook) for hook in HOOKS}
            other = host_for(rng, HOOKS, 2, deep=1)
            told = answers(host, calls, [again, other])
            self.assertEqual(answers(again, calls, [again, other]), told)
            self.assertEqual(answers(host, calls, [host, other]), told)
            for hook in HOOKS:
                self.assertIsNone(alike(host, again, hook.name))
            for index, hook in enumerate(HOOKS):
                if has_order(host, hook.name):
                    self.assertEqual(len(host.kept(index)), len(set(map(typed, host.kept(index)))))
                else:
                    self.assertIsNone(host.kept(index))


class Conventions(unittest.TestCase):
    """Each function, class and method by position and by the names of its parameters, with equal answers."""

    def setUp(self):
        self.host = Host([SHADE, TRIM])
        for name, body in [("a", ("number", 1)), ("b", ("param", "size")), ("c", ("none",))]:
            self.host.add(Plugin(name, [Part("shade", body)]))
        self.other = self.host - "a"
        self.row = Row(["a", "b", "c"], [("a", "b")])
        self.ring = Row(["a", "b"], [("a", "b"), ("b", "a")])
        self.calls = Calls(SHADE, {"size": (0, 5)})
        self.call = {"size": 3}

    def both(self, work, args, names):
        """The answer to a call by position, which is also that by name."""
        first = work(*args)
        self.assertEqual(work(**dict(zip(names.split(), args))), first)
        self.assertEqual(work(**dict(reversed(list(zip(names.split(), args))))), first)
        self.assertEqual(work(*args), first)
        return first

    def test_functions(self):
        host, order = self.host, ("a", "b", "c")
        body = ("plus", "size", 1)
        pieces = [
            (check_body, (SHADE, body), "hook body"), (children, (body,), "tree"), (count, (body,), "tree"),
            (show_body, (body,), "body"), (read_body, ("size + 1",), "text"),
            (written, (Moved("size"), self.calls), "term calls"),
            (parting, ([Value(1)], [Moved("size")], self.calls), "one other calls"),
            (read_plugin, ("plugin a",), "text"), (run, (host, "shade", self.call), "host hook call"),
            (trace, (host, "shade", self.call), "host hook call"),
            (results, (host, "shade", self.call), "host hook call"),
            (parted, (host, "shade", self.call), "host hook call"), (sure, (host, "shade"), "host hook"),
            (alike, (host, self.other, "shade"), "host other hook"), (quiet, (host, "a"), "host name"),
            (deciders, (host, "shade", self.call), "host hook call"), (settle, (host, "shade", order), "host hook order"),
            (settled, (host, "shade", [("a", "b")]), "host hook pairs"), (holds_ring, (self.ring, ("a", "b")), "row value"),
            (holds_chain, (self.row, "a", "b", ("a", "b")), "row one other value"),
            (holds_exchanges, (self.row, order, order, (order,)), "row one other value"),
            (holds_results, (host, "shade", self.call, results(host, "shade", self.call)), "host hook call value"),
            (holds_parted, (host, "shade", self.call, parted(host, "shade", self.call)), "host hook call value"),
            (holds_sure, (host, "shade", sure(host, "shade")), "host hook value"),
            (holds_alike, (host, self.other, "shade", None), "host other hook value"),
            (holds_settle, (host, "shade", order, settle(host, "shade", order)), "host hook order value"),
        ]
        for work, args, names in pieces:
            with self.subTest(work.__name__):
                told = self.both(work, args, names)
                if work.__name__.startswith("holds_"):
                    self.assertIs(told, work is not holds_alike)
        self.assertEqual(
            [shown(case) for case in table(host=host, hook="shade")], [shown(case) for case in table(host, "shade")])

    def test_classes(self):
        for make, args, names in [
            (Hook, ("shade", "first", [("size", "number")]), "name kind params"),
            (Calls, (SHADE, {"size": (1, 2)}), "hook bounds"), (Value, (1,), "value"), (Moved, ("size", 1), "name shift"),
            (Failure, ("x", "a"), "word plugin"), (Row, (["a", "b"], [("a", "b")]), "names pairs"),
            (Part, ("shade", ("none",)), "hook body"), (Plugin, ("a", []), "name parts"), (Host, ([SHADE],), "hooks"),
        ]:
            with self.subTest(make.__name__):
                self.both(make, args, names)
        case = Case(results=((Value(1), ("a",)),), calls=self.calls)
        self.assertEqual(shown(case), shown(Case(self.calls, ((Value(1), ("a",)),))))
        self.assertEqual(vars(InvalidHook(name=1, word="x")), vars(InvalidHook("x", 1)))
        self.assertEqual(vars(Barred(names=(), hook="a")), {"hook": "a", "names": ()})

    def test_methods(self):
        host, row, order = self.host, self.row, ("a", "b", "c")
        host.keep("shade", self.call)
        for work, args, names in [
            (SHADE.bind, ([3], {}), "args named"), (self.calls.bound, ("size",), "name"),
            (self.calls.within, (Calls(SHADE),), "other"), (self.calls.where, (("most", "size", 3),), "test"),
            (Value(1), (self.call,), "call"), (Moved("size"), (self.call,), "call"), (Failure("x", "a"), (self.call,), "call"),
            (row.keeps, (order,), "order"), (row.ahead, ("a", "b"), "one other"), (row.chain, ("a", "b"), "one other"),
            (row.count, (["a", "b"],), "names"), (row.with_wish, ("b", "c"), "one other"), (row.without, ("a",), "name"),
            (row.freed, ("a",), "name"), (row.within, (row,), "other"), (row.exchanges, (order, order), "one other"),
            (row.free_at, (order,), "order"), (Plugin("a", [Part("b", ("none",))]).part, ("b",), "hook"),
            (Case(self.calls, ((Moved("size"), order),)), (self.call,), "call"), (host.hook_of, ("shade",), "name"),
            (host.row, ("shade",), "hook"), (host.kept, (0,), "index"), (host.in_trial, (len,), "work"),
            (host.log, (), ""),
        ]:
            self.both(work, args, names)
        self.assertEqual(host.call(hook="shade", size=3), host.call("shade", 3))
        self.assertEqual(host.keep(call=self.call, hook="shade"), 1)
        self.assertIsNone(host.add(plugin=Plugin("z", [])))
        self.assertIsNone(host.drop(name="z"))

    def test_arguments_stay_as_they_are(self):
        host, call, order, pairs = self.host, {"size": 3}, ["c", "a", "b"], [("a", "b")]
        before = answers(host, {"shade": {"size": 3}, "trim": {"size": 3, "many": 1}}, [self.other])
        run(host, "shade", call, order=order)
        trace(host, "shade", call, order=order)
        results(host, "shade", call)
        parted(host, "shade", call)
        deciders(host, "shade", call)
        settle(host, "shade", order)
        settled(host, "shade", pairs)
        host.keep("shade", call)
        host.trial()
        self.assertEqual((call, order, pairs), ({"size": 3}, ["c", "a", "b"], [("a", "b")]))
        self.assertEqual(answers(host, {"shade": {"size": 3}, "trim": {"size": 3, "many": 1}}, [self.other]), before)

    def test_what_is_returned_is_new(self):
        told = sure(self.host, "shade")
        told[0]["size"] = 10 ** 9
        self.assertNotEqual(sure(self.host, "shade"), told)
        call = alike(self.host, self.other, "shade")
        call.clear()
        self.assertNotEqual(alike(self.host, self.other, "shade"), call)

    def test_equal_to_nothing_of_another_class(self):
        things = [
            SHADE, self.calls, Value(1), Moved("size"), Failure("x", "a"), self.row, Part("shade", ("none",)),
            Plugin("a", []), self.host, None, 0, "a", (), object(),
        ]
        for at, one in enumerate(things):
            for there, other in enumerate(things):
                self.assertIs(one == other, at == there)


if __name__ == "__main__":
    unittest.main()
