"""All orders of one call: point [31], with [23]; the point "One call" of the promise [4]."""

import inspect
import itertools
import random
import unittest

from hookrow.errors import Barred, NoHook
from hookrow.plugins import Part, Plugin
from hookrow.results import parted, results
from hookrow.running import run
from hookrow.terms import Failure
from hostmaker import LIST, SHADE, TINT, TRIM, drawn, fault, grid, host_for, made, some_call
import reckoning

NONE = ("none",)


class Results(unittest.TestCase):
    def check(self, host, name, call):
        """The results against those of all orders; returns how many there are."""
        expected = reckoning.results_in(host, name, call)
        told = results(host, name, call)
        self.assertIsInstance(told, tuple)
        self.assertTrue(all(isinstance(each, tuple) and len(each) == 3 for each in told))
        self.assertEqual(len(told), len(expected))
        for result, number, order in told:
            _, tried = expected.pop(reckoning.typed(result))
            self.assertEqual(reckoning.typed(number), reckoning.typed(len(tried)))
            self.assertIsInstance(order, tuple)
            self.assertIn(order, tried)
        self.assertEqual(expected, {})
        return len(told)

    def test_examples(self):
        dim = ("ask", (("size", ("plus", "size", 9)),), ("plus", "inner", 10), None)
        free = made(SHADE, ("if", ("most", "size", 9), ("number", 1), NONE), ("number", 2))
        free.add(Plugin("dim", [Part("shade", dim, wraps=True)]))
        told = sorted((result, number) for result, number, order in results(free, "shade", {"size": -5}))
        self.assertEqual(told, [(11, 1), (12, 1)])
        self.assertEqual(parted(free, "shade", {"size": -5})[1], 1)
        host = free + Plugin("c", [Part("shade", NONE, after=["a"], before=["b"])])
        self.assertEqual(len(results(host, "shade", {"size": -5})), 1)
        self.assertIsNone(parted(host, "shade", {"size": -5}))

    def test_without_parts(self):
        self.assertEqual(results(made(SHADE), "shade", {"size": 1}), ((None, 1, ()),))
        self.assertEqual(results(made(TRIM), "trim", {"size": 1, "many": 2}), ((1, 1, ()),))
        self.assertEqual(results(made(LIST), "list", {"size": 1, "mode": "x"}), (((), 1, ()),))
        for hook in (SHADE, LIST):
            self.assertIsNone(parted(made(hook), hook.name, {"size": 1, "mode": "x"}))

    def test_one_result_of_many_orders(self):
        call = {"size": 1}
        (told,) = results(made(SHADE, NONE, NONE, NONE, NONE, NONE), "shade", call)
        self.assertEqual(told[:2], (None, 120))
        (told,) = results(made(SHADE, *[("number", 4)] * 5), "shade", call)
        self.assertEqual(told[:2], (4, 120))

    def test_numbers(self):
        call = {"size": 1}
        host = made(SHADE, ("number", 4), NONE, ("number", 5), ("number", 4), ("fail", "x"))
        told = {reckoning.typed(result): number for result, number, _ in results(host, "shade", call)}
        self.assertEqual(told, {("int", "4"): 60, ("int", "5"): 30, reckoning.typed(Failure("x", "e")): 30})

    def test_failures_of_two_plugins_are_two_results(self):
        host = made(SHADE, ("fail", "x"), ("fail", "x"))
        self.assertEqual(self.check(host, "shade", {"size": 0}), 2)

    def test_answers_and_words_that_look_alike(self):
        host = made(TINT, ("word", "x"), ("fail", "x"), ("word", "none"), NONE)
        self.assertEqual(self.check(host, "tint", {"mode": "x", "size": 0}), 3)

    def test_five_parts_that_all_tell(self):
        host = made(LIST, *[("number", at) for at in range(5)])
        self.assertEqual(self.check(host, "list", {"size": 0, "mode": "x"}), 120)
        self.assertEqual(len(results(host, "list", {"size": 0, "mode": "x"})), 120)

    def test_drawn(self):
        rng = random.Random(31)
        several = 0
        for host, name in drawn(300, 31, many=(0, 1, 2, 3, 4, 5)):
            for _ in range(4):
                several += self.check(host, name, some_call(rng, host.hook_of(name))) > 1
        self.assertGreater(several, 80)

    def test_against_running_each_order(self):
        for host, name in drawn(40, 32):
            for call in grid(host.hook_of(name), 1):
                told = [run(host, name, call, order=order) for order in reckoning.orders_in(host, name)]
                found = results(host, name, call)
                self.assertEqual(sum(number for _, number, _ in found), len(told))
                for result, number, order in found:
                    self.assertEqual(number, sum(each == result for each in told))
                    self.assertEqual(run(host, name, call, order=order), result)


class Parted(unittest.TestCase):
    def check(self, host, name, call):
        told = parted(host, name, call)
        if len(reckoning.results_in(host, name, call)) == 1:
            self.assertIsNone(told)
            return False
        self.assertIsInstance(told, tuple)
        order, at = told
        self.assertIsInstance(order, tuple)
        self.assertIs(type(at), int)
        self.assertIn(order, reckoning.orders_in(host, name))
        self.assertIn(at, host.row(name).free_at(order))
        other = reckoning.swapped(order, at)
        self.assertIn(other, reckoning.orders_in(host, name))
        self.assertNotEqual(
            reckoning.reckon(host, name, call, order)[0], reckoning.reckon(host, name, call, other)[0])
        return True

    def test_drawn(self):
        rng = random.Random(41)
        several = 0
        for host, name in drawn(300, 41, many=(0, 1, 2, 3, 4, 5)):
            for _ in range(4):
                several += self.check(host, name, some_call(rng, host.hook_of(name)))
        self.assertGreater(several, 80)

    def test_with_wishes_between(self):
        """Of the names of an order only some neighbours can be exchanged."""
        for wishes in itertools.product([[], ["a"], ["b"], ["a", "b"]], repeat=2):
            host = made(
                SHADE, ("number", 1), NONE, Part("shade", ("number", 2), after=wishes[0]),
                Part("shade", ("number", 3), after=wishes[1]))
            self.check(host, "shade", {"size": 0})

    def test_wrappers_alone_part(self):
        plus, times = ("ask", (), ("plus", "inner", 1), None), ("ask", (), ("number", 5), None)
        host = made(SHADE, Part("shade", plus, wraps=True), Part("shade", times, wraps=True), ("number", 1))
        self.assertEqual(parted(host, "shade", {"size": 0})[1], 0)


class Both(unittest.TestCase):
    def test_errors(self):
        ring = made(SHADE, Part("shade", NONE, before=["b"]), Part("shade", NONE, before=["a"]))
        for work in (results, parted):
            self.assertEqual(fault(lambda: work(ring, "tint", {"size": 1})), (NoHook, {"name": "tint"}))
            self.assertEqual(
                fault(lambda: work(ring, "shade", {"size": 1})), (Barred, {"hook": "shade", "names": ("a", "b")}))

    def test_arguments(self):
        host = made(SHADE, ("number", 1), ("number", 2))
        call = {"size": 4}
        for work in (results, parted):
            self.assertEqual(str(inspect.signature(work)), "(host, hook, call)")
            self.assertEqual(work(call=call, hook="shade", host=host), work(host, "shade", call))
        self.assertEqual(call, {"size": 4})
        self.assertEqual(host, made(SHADE, ("number", 1), ("number", 2)))

    def test_again_and_again(self):
        for host, name in drawn(30, 42):
            calls = grid(host.hook_of(name), 1)
            first = [(results(host, name, call), parted(host, name, call)) for call in calls]
            again = [(results(host, name, call), parted(host, name, call)) for call in reversed(calls)]
            self.assertEqual(again[::-1], first)

    def test_hosts_of_several_hooks(self):
        rng = random.Random(43)
        for _ in range(20):
            host = host_for(rng, [SHADE, TRIM, LIST], 5, bringing=0.6)
            for hook in (SHADE, TRIM, LIST):
                call = some_call(rng, hook)
                expected = reckoning.results_in(host, hook.name, call)
                self.assertEqual({reckoning.typed(each[0]) for each in results(host, hook.name, call)}, set(expected))


if __name__ == "__main__":
    unittest.main()
