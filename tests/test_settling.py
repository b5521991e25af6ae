"""Settling: point [36]; the point "Settled" of the promise [4]."""

import inspect
import itertools
import random
import unittest

from hookrow.errors import Barred, NoHook, NoOrder
from hookrow.plugins import Part
from hookrow.rows import Row
from hookrow.settling import settle, settled
from hookrow.tables import sure
from hostmaker import SHADE, TRIM, WIDE, drawn, fault, full_host, grid, host_for, made
import reckoning

NONE = ("none",)


def orders_with(host, name, pairs):
    return [order for order in reckoning.orders_in(host, name) if reckoning.keeps(order, pairs)]


class Settle(unittest.TestCase):
    def check(self, host, name, order):
        pairs = settle(host, name, order)
        self.assertIsInstance(pairs, tuple)
        self.assertEqual(list(pairs), sorted(set(pairs)))
        self.assertLessEqual(set(pairs), set(reckoning.neighbours(tuple(order))))
        self.assertIsNone(settled(host, name, pairs))
        for pair in pairs:
            self.assertIsNotNone(settled(host, name, [each for each in pairs if each != pair]))
        if sure(host, name) is None:
            self.assertEqual(pairs, ())
        return pairs

    def test_sure_without(self):
        self.assertEqual(settle(made(SHADE), "shade", ()), ())
        self.assertEqual(settle(made(SHADE, ("number", 1)), "shade", ["a"]), ())
        self.assertEqual(settle(made(SHADE, ("number", 1), ("number", 1), NONE), "shade", ("c", "b", "a")), ())

    def test_neighbours_of_the_order(self):
        host = made(SHADE, ("number", 1), ("number", 2))
        self.assertEqual(settle(host, "shade", ("b", "a")), (("b", "a"),))
        self.assertEqual(settle(host, "shade", ["a", "b"]), (("a", "b"),))

    def test_some_can_be_left_out(self):
        host = made(SHADE, ("number", 1), ("number", 2), NONE)
        self.assertEqual(settle(host, "shade", ("a", "b", "c")), (("a", "b"),))
        self.assertEqual(settle(host, "shade", ("a", "c", "b")), (("a", "c"), ("c", "b")))
        self.assertEqual(settle(host, "shade", ("c", "b", "a")), (("b", "a"),))

    def test_all_are_needed(self):
        bodies = [("if", ("most", "size", at), ("number", at), ("plus", "size", -at)) for at in (1, 2, 3, 4)]
        host = made(TRIM, *bodies)
        order = ("d", "b", "a", "c")
        self.assertEqual(self.check(host, "trim", order), tuple(sorted(reckoning.neighbours(order))))

    def test_each_order_of_drawn_hosts(self):
        counts = {}
        for host, name in drawn(120, 36, many=(2, 3, 3, 4), wishing=0.15):
            for order in reckoning.orders_in(host, name)[:8]:
                many = len(self.check(host, name, order))
                counts[many] = counts.get(many, 0) + 1
        self.assertGreater(min(counts[many] for many in (0, 1, 2)), 10)

    def test_at_the_limits(self):
        rng = random.Random(37)
        for hook in WIDE:
            host = full_host(rng, [hook], 1000, 1)
            self.check(host, hook.name, rng.choice(reckoning.orders_in(host, hook.name)))

    def test_errors_in_turn(self):
        ring = made(SHADE, Part("shade", NONE, before=["b"]), Part("shade", NONE, before=["a"]))
        self.assertEqual(fault(lambda: settle(ring, "tint", ["z"])), (NoHook, {"name": "tint"}))
        self.assertEqual(
            fault(lambda: settle(ring, "shade", ["z"])), (Barred, {"hook": "shade", "names": ("a", "b")}))
        host = made(SHADE, Part("shade", ("number", 1), after=["c"]), NONE, ("number", 2))
        for order, at in [
            ([], 0), (["a", "b", "c"], 0), (["b", "a", "c"], 1), (["c", "a"], 2), (["c", "a", "b", "b"], 3),
            (["c", "c", "a"], 1), (("c", "z"), 1), (("b", "c"), 2),
        ]:
            self.assertEqual(fault(lambda: settle(host, "shade", order)), (NoOrder, {"at": at}))

    def test_arguments(self):
        host = made(SHADE, ("number", 1), ("number", 2))
        order = ["b", "a"]
        self.assertEqual(settle(order=order, hook="shade", host=host), (("b", "a"),))
        self.assertEqual(order, ["b", "a"])
        self.assertEqual(str(inspect.signature(settle)), "(host, hook, order)")
        self.assertEqual(host, made(SHADE, ("number", 1), ("number", 2)))
        self.assertEqual(host.row("shade"), Row(["a", "b"]))


class Settled(unittest.TestCase):
    def check(self, host, name, pairs, calls):
        """What `settled` tells against all orders that keep the row and the pairs."""
        told = settled(host, name, pairs)
        tried = orders_with(host, name, pairs)
        if told is None:
            for call in calls:
                results = {reckoning.typed(reckoning.reckon(host, name, call, order)[0]) for order in tried}
                self.assertEqual(len(results), 1)
            return False
        call, order, at = told
        other = reckoning.swapped(order, at)
        self.assertIn(order, tried)
        self.assertIn(other, tried)
        one, another = [reckoning.reckon(host, name, call, each)[0] for each in (order, other)]
        self.assertNotEqual(reckoning.typed(one), reckoning.typed(another))
        return True

    def test_none_some_and_all_neighbours(self):
        rng = random.Random(38)
        both = []
        for host, name in drawn(120, 38, many=(2, 3, 4), wishing=0.15):
            calls = grid(host.hook_of(name), 3)
            calls = rng.sample(calls, min(8, len(calls)))
            order = rng.choice(reckoning.orders_in(host, name))
            beside = reckoning.neighbours(order)
            self.assertFalse(self.check(host, name, beside, calls))
            for many in range(len(beside)):
                both.append(self.check(host, name, rng.sample(beside, many), calls))
            both.append(self.check(host, name, [], calls))
            self.assertEqual(settled(host, name, ()), sure(host, name))
        self.assertGreater(min(sum(both), len(both) - sum(both)), 30)

    def test_pairs_that_are_not_neighbours(self):
        rng = random.Random(39)
        for host, name in drawn(60, 39, many=(3, 4), wishing=0.1):
            names = list(reckoning.parts_of(host, name))
            pairs = [tuple(rng.sample(names, 2)) for _ in range(rng.randrange(1, 4))]
            calls = grid(host.hook_of(name), 2)
            if orders_with(host, name, pairs):
                self.check(host, name, rng.choice([list, tuple])(pairs), rng.sample(calls, min(5, len(calls))))
            else:
                row = Row(host.row(name).names, [*host.row(name).pairs, *pairs])
                self.assertEqual(
                    fault(lambda: settled(host, name, pairs)), (Barred, {"hook": name, "names": row.ring}))

    def test_pairs_twice_and_those_of_the_row(self):
        host = made(SHADE, Part("shade", ("number", 1), before=["c"]), ("number", 2), NONE)
        for pairs in itertools.product([("a", "c"), ("a", "b")], repeat=2):
            self.assertEqual(settled(host, "shade", pairs) is None, ("a", "b") in pairs)

    def test_errors_in_turn(self):
        ring = made(SHADE, Part("shade", NONE, before=["b"]), Part("shade", NONE, before=["a"]), NONE)
        self.assertEqual(fault(lambda: settled(ring, "tint", [("a", "b")])), (NoHook, {"name": "tint"}))
        for pairs in [(), [("a", "c")]]:
            self.assertEqual(
                fault(lambda: settled(ring, "shade", pairs)), (Barred, {"hook": "shade", "names": ("a", "b")}))
        host = made(SHADE, Part("shade", NONE, before=["b"]), NONE, NONE)
        self.assertEqual(
            fault(lambda: settled(host, "shade", [("b", "c"), ("c", "a")])),
            (Barred, {"hook": "shade", "names": ("a", "b", "c")}))
        self.assertEqual(
            fault(lambda: settled(host, "shade", (("b", "a"),))), (Barred, {"hook": "shade", "names": ("a", "b")}))

    def test_arguments(self):
        host = made(SHADE, ("number", 1), ("number", 2))
        pairs = [("b", "a")]
        self.assertIsNone(settled(pairs=pairs, hook="shade", host=host))
        self.assertEqual(pairs, [("b", "a")])
        self.assertEqual(str(inspect.signature(settled)), "(host, hook, pairs)")
        self.assertEqual(host.row("shade"), Row(["a", "b"]))

    def test_three_hooks(self):
        rng = random.Random(40)
        for _ in range(15):
            host = host_for(rng, [SHADE, TRIM], 3, deep=1, wishing=0.1)
            for name in host.hooks:
                order = reckoning.orders_in(host, name)[-1]
                self.assertIsNone(settled(host, name, settle(host, name, order)))


if __name__ == "__main__":
    unittest.main()
