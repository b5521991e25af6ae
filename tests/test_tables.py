"""All calls: points [32], [33], [34]; the points "All calls" and "Sure" of the promise [4]."""

import inspect
import itertools
import random
import unittest

from hookrow.calls import Calls
from hookrow.errors import Barred, NoHook
from hookrow.hooks import Hook
from hookrow.plugins import Part
from hookrow.results import parted
from hookrow.tables import Case, sure, table
from hookrow.terms import Failure, Moved, Value, written
from hostmaker import LIST, PLAIN, SHADE, TRIM, WIDE, calls_beside, drawn, fault, full_host, grid, has_order, host_for
from hostmaker import made, some_call
import reckoning

NONE = ("none",)


def value_at(result, call):
    """The value of a result at a set of calls, at one of them."""
    return tuple(term(call) for term in result) if isinstance(result, tuple) else result(call)


def shown(case):
    return [(str(result) if not isinstance(result, tuple) else [str(term) for term in result], order)
            for result, order in case.results]


class TableCase(unittest.TestCase):
    def check_form(self, host, name, cases):
        """What each case must be, whatever the calls."""
        hook = host.hook_of(name)
        tried = reckoning.orders_in(host, name)
        self.assertIsInstance(cases, tuple)
        for case in cases:
            self.assertIsInstance(case, Case)
            self.assertIsInstance(case.calls, Calls)
            self.assertEqual(case.calls.hook, hook)
            self.assertTrue(case.calls)
            self.assertIsInstance(case.results, tuple)
            self.assertTrue(case.results)
            for result, order in case.results:
                self.assertIn(order, tried)
                self.check_result(hook, result)
                self.assertEqual(written(result, case.calls), result)
            for (one, _), (other, _) in itertools.combinations(case.results, 2):
                self.assertFalse(one == other)

    def check_result(self, hook, result):
        if hook.kind == "each" and isinstance(result, tuple):
            self.assertTrue(all(isinstance(term, (Value, Moved)) for term in result))
        elif hook.kind == "each":
            self.assertIsInstance(result, Failure)
        else:
            self.assertIsInstance(result, (Value, Moved, Failure))

    def check_apart(self, cases):
        """Cases share no call, and have each call."""
        for one, other in itertools.combinations(cases, 2):
            self.assertFalse(one.calls & other.calls)
        left = [Calls(cases[0].calls.hook)]
        for case in cases:
            left = [piece for calls in left for piece in calls - case.calls]
        self.assertEqual(left, [])

    def check_at(self, host, name, cases, call):
        """The one case of a call against all orders; returns whether there are several results."""
        expected = reckoning.results_in(host, name, call)
        (case,) = [each for each in cases if call in each.calls]
        values = []
        for result, order in case.results:
            value = value_at(result, call)
            self.assertIn(order, expected[reckoning.typed(value)][1])
            if value not in values:
                values.append(value)
        self.assertEqual({reckoning.typed(value) for value in values}, set(expected))
        self.assertEqual(reckoning.typed(case(call)), reckoning.typed(tuple(values)))
        return len(expected) > 1

    def check_sure(self, host, name, parting):
        """What `sure` tells, if some call is known that parts the orders, or none."""
        told = sure(host, name)
        if told is None:
            self.assertFalse(parting)
            return
        call, order, at = told
        hook = host.hook_of(name)
        self.assertEqual(reckoning.typed(bound(hook, call)), reckoning.typed(call))
        self.assertGreater(len(reckoning.results_in(host, name, call)), 1)
        self.assertIsNotNone(parted(host, name, call))
        self.assertIn(at, host.row(name).free_at(order))
        self.assertIn(order, reckoning.orders_in(host, name))
        one, _ = reckoning.reckon(host, name, call, order)
        other, _ = reckoning.reckon(host, name, call, reckoning.swapped(order, at))
        self.assertNotEqual(reckoning.typed(one), reckoning.typed(other))

    def check_host(self, host, name, calls):
        cases = table(host, name)
        self.check_form(host, name, cases)
        parting = False
        for call in [*calls, *calls_beside(cases, host.hook_of(name))]:
            parting = self.check_at(host, name, cases, call) or parting
        self.check_sure(host, name, parting)
        return cases, parting


def bound(hook, call):
    """The call as `bind` makes it of its own values."""
    given = {name: call[name] for name, _, _ in hook.only}
    return hook.bind([call[name] for name, _, _ in hook.params], given)


class Tables(TableCase):
    def test_example(self):
        cases = table(made(SHADE), "shade")
        self.assertEqual([case({"size": 3}) for case in cases if {"size": 3} in case.calls], [(None,)])

    def test_without_parts(self):
        for hook, expected in [(SHADE, ["none"]), (TRIM, ["size"]), (LIST, [[]]), (PLAIN, ["none"])]:
            cases, parting = self.check_host(made(hook), hook.name, grid(hook, 1))
            self.assertEqual([[each for each, _ in shown(case)] for case in cases], [expected])
            self.assertFalse(parting)
            self.assertEqual(cases[0].calls, Calls(hook))

    def test_a_hook_without_parameters(self):
        host = made(PLAIN, ("number", 1), ("number", 2), ("fail", "x"))
        cases, parting = self.check_host(host, "plain", [{}])
        self.assertTrue(parting)
        self.assertEqual(len(cases), 1)
        self.assertEqual(sure(host, "plain")[0], {})

    def test_terms(self):
        host = made(SHADE, ("if", ("most", "size", 3), ("plus", "size", 2), ("param", "size")))
        cases, _ = self.check_host(host, "shade", grid(SHADE))
        told = sorted((case.calls.bound("size")[0] is None, shown(case)) for case in cases)
        self.assertEqual(told, [(False, [("size", ("a",))]), (True, [("size + 2", ("a",))])])

    def test_a_single_value_is_written(self):
        host = made(SHADE, ("if", ("both", ("most", "size", 3), ("not", ("most", "size", 2))), ("param", "size"), NONE))
        cases, _ = self.check_host(host, "shade", grid(SHADE))
        (three,) = [case for case in cases if {"size": 3} in case.calls]
        self.assertEqual(shown(three), [("3", ("a",))])
        host = made(
            SHADE, ("if", ("both", ("most", "size", 3), ("not", ("most", "size", 2))), ("param", "size"), NONE),
            ("number", 3))
        cases, _ = self.check_host(host, "shade", grid(SHADE))
        for case in cases:
            self.assertEqual([result for result, _ in case.results], [Value(3)])
        self.assertIsNone(sure(host, "shade"))

    def test_results_that_meet_at_a_call(self):
        """Two results of a case may have the same value at some of its calls."""
        host = made(SHADE, ("param", "size"), ("number", 5))
        (case,), parting = self.check_host(host, "shade", grid(SHADE))
        self.assertTrue(parting)
        self.assertEqual(case({"size": 5}), (5,))
        self.assertEqual(sorted(case({"size": 4})), [4, 5])
        self.assertNotEqual(sure(host, "shade")[0], {"size": 5})

    def test_tests_that_are_not_reached_split_nothing(self):
        host = made(SHADE, Part("shade", ("number", 1), before=["b"]), ("if", ("most", "size", 3), NONE, ("number", 2)))
        self.assertEqual(len(table(host, "shade")), 1)

    def test_cells_that_agree_are_one_case(self):
        test = ("either", ("most", "size", 3), ("not", ("most", "size", 1)))
        host = made(SHADE, ("if", test, ("number", 1), ("number", 2)))
        self.assertEqual(len(table(host, "shade")), 1)

    def test_cells_of_words_that_agree_are_one_case(self):
        hook = Hook("tint", "first", [("mode", "word")], gives="word")

        def told_by(*answers):
            """The bounds of the cases for a part that answers by the first words in turn, and last for all others."""
            body = ("word", answers[-1])
            for word, answer in zip("xyz", answers[:-1]):
                body = ("if", ("is", "mode", word), ("word", answer), body)
            cases, _ = self.check_host(made(hook, body), "tint", [{"mode": word} for word in "wxyz"])
            self.check_apart(cases)
            return sorted((str(case.results[0][0]), case.calls.bound("mode")) for case in cases)

        self.assertEqual(told_by("a", "a", "a", "a"), [("'a", ((), False))])
        self.assertEqual(told_by("a", "a", "b"), [("'a", (("x", "y"), True)), ("'b", (("x", "y"), False))])
        self.assertEqual(told_by("a", "b", "b"), [("'a", (("x",), True)), ("'b", (("x",), False))])
        self.assertEqual(told_by("b", "a", "b"), [("'a", (("y",), True)), ("'b", (("y",), False))])
        self.assertEqual(
            told_by("a", "b", "a", "c"), [("'a", (("x", "z"), True)), ("'b", (("y",), True)), ("'c", (("x", "y", "z"), False))])

    def test_no_order_gives_a_result_everywhere(self):
        """At each call both results are given, but by other orders: such calls are in two cases."""
        low = ("if", ("most", "size", 0), ("number", 1), ("number", 2))
        high = ("if", ("most", "size", 0), ("number", 2), ("number", 1))
        cases, parting = self.check_host(made(SHADE, low, high), "shade", grid(SHADE))
        self.assertTrue(parting)
        self.assertEqual(len(cases), 2)

    def test_drawn(self):
        several = 0
        for host, name in drawn(240, 33, many=(0, 1, 2, 3, 4)):
            calls = grid(host.hook_of(name), 4)
            cases, parting = self.check_host(host, name, random.Random(1).sample(calls, min(30, len(calls))))
            self.check_apart(cases)
            several += parting
        self.assertGreater(several, 30)

    def test_drawn_with_five_plain_parts(self):
        for host, name in drawn(24, 34, many=(5,), wrapping=0, wishing=0.1, layers=0, deep=2):
            calls = grid(host.hook_of(name), 3)
            self.check_host(host, name, random.Random(2).sample(calls, min(10, len(calls))))

    def test_on_whole_grids(self):
        for host, name in drawn(36, 35, many=(2, 3)):
            self.check_host(host, name, grid(host.hook_of(name), 7))

    def test_at_the_limits(self):
        rng = random.Random(36)
        for reach, wrappers, hook in itertools.product((4, 1000), (0, 1, 2), WIDE):
            host = full_host(rng, [hook], reach, wrappers)
            cases = table(host, hook.name)
            self.check_form(host, hook.name, cases)
            beside = calls_beside(cases, hook)
            calls = [some_call(rng, hook, reach) for _ in range(10)] + rng.sample(beside, min(20, len(beside)))
            parting = [self.check_at(host, hook.name, cases, call) for call in calls]
            self.check_sure(host, hook.name, any(parting))

    def test_three_hooks_and_seven_plugins(self):
        rng = random.Random(37)
        host = full_host(rng, WIDE[:3])
        self.assertEqual((len(host), len(host.hooks)), (7, 3))
        for hook in WIDE[:3]:
            cases = table(host, hook.name)
            for _ in range(20):
                self.check_at(host, hook.name, cases, some_call(rng, hook, 1000))

    def test_calls_far_away(self):
        for host, name in drawn(30, 38):
            hook = host.hook_of(name)
            cases = table(host, name)
            for size in (10 ** 6, -10 ** 6, 10 ** 6 + 1, 10 ** 20):
                call = {**some_call(random.Random(size), hook), "size": size}
                self.check_at(host, name, cases, call)

    def test_the_same_again(self):
        for host, name in drawn(20, 39):
            one, other = table(host, name), table(host, name)
            self.assertEqual([shown(case) for case in one], [shown(case) for case in other])
            self.assertEqual([case.calls for case in one], [case.calls for case in other])


class Sure(TableCase):
    def test_examples(self):
        host = made(SHADE, ("if", ("most", "size", 9), ("number", 1), NONE), Part("shade", NONE, after=["a"], before=["c"]),
                    ("number", 2))
        self.assertIsNone(sure(host, "shade"))
        call, order, at = sure(host - "b", "shade")
        self.assertLessEqual(call["size"], 9)
        self.assertIn((order, at), [(("a", "c"), 0), (("c", "a"), 0)])

    def test_against_parted_over_a_grid(self):
        none = 0
        for host, name in drawn(200, 44, many=(2, 3, 4)):
            calls = grid(host.hook_of(name), 4)
            parting = [call for call in random.Random(3).sample(calls, min(40, len(calls)))
                       if parted(host, name, call) is not None]
            self.check_sure(host, name, bool(parting))
            none += sure(host, name) is None
        self.assertGreater(none, 40)

    def test_one_single_call_parts(self):
        for at in (0, 7, -1000, 1000):
            here = ("both", ("most", "size", at), ("not", ("most", "size", at - 1)))
            host = made(SHADE, ("if", here, ("number", 1), NONE), ("number", 2))
            self.assertEqual(sure(host, "shade")[0], {"size": at})
            host = made(SHADE, ("if", here, ("number", 1), NONE), ("if", here, ("number", 1), ("number", 2)))
            self.assertIsNone(sure(host, "shade"))

    def test_the_value_of_a_parameter_parts(self):
        host = made(SHADE, ("if", ("most", "size", 5), NONE, ("param", "size")), ("if", ("most", "size", 6), NONE, ("number", 7)))
        self.assertGreater(sure(host, "shade")[0]["size"], 7)

    def test_words(self):
        hook = Hook("tint", "first", [("mode", "word")], gives="word")
        host = made(hook, ("if", ("is", "mode", "x"), ("word", "y"), NONE), ("if", ("is", "mode", "x"), NONE, ("word", "z")))
        self.assertIsNone(sure(host, "tint"))
        host = made(hook, ("if", ("is", "mode", "x"), ("word", "y"), NONE), ("word", "z"))
        self.assertEqual(sure(host, "tint")[0], {"mode": "x"})

    def test_one_order(self):
        host = made(SHADE, Part("shade", ("number", 1), layer="early"), ("number", 2))
        self.assertIsNone(sure(host, "shade"))
        self.assertIsNone(sure(made(SHADE, ("number", 1)), "shade"))


class Cases(unittest.TestCase):
    def test_made_by_hand(self):
        calls = Calls(SHADE, {"size": (3, 6)})
        pairs = (
            (Moved("size", 1), ("a", "b")), (Value(5), ("b", "a")), (Value(None), ("c",)), (Failure("x", "a"), ("d",)),
            (Failure("x", "b"), ("e",)), (Moved("size"), ("f",)),
        )
        for case in [Case(calls, pairs), Case(results=pairs, calls=calls)]:
            self.assertEqual((case.calls, case.results), (calls, pairs))
            self.assertEqual(
                [case({"size": size}) for size in (3, 4, 5)], [
                    (4, 5, None, Failure("x", "a"), Failure("x", "b"), 3),
                    (5, None, Failure("x", "a"), Failure("x", "b"), 4),
                    (6, 5, None, Failure("x", "a"), Failure("x", "b")),
                ])
            self.assertEqual(case(call={"size": 6})[0], 7)

    def test_tuples(self):
        calls = Calls(LIST)
        pairs = (
            ((), ("a",)), ((Value(3), Moved("size")), ("b",)), ((Moved("size"), Value(3)), ("c",)),
            (Failure("x", "a"), ("d",)),
        )
        case = Case(calls, pairs)
        call = {"size": 3, "mode": "x"}
        self.assertEqual(case(call), ((), (3, 3), Failure("x", "a")))
        self.assertEqual(call, {"size": 3, "mode": "x"})
        self.assertEqual(case({"size": 4, "mode": "x"}), ((), (3, 4), (4, 3), Failure("x", "a")))

    def test_words(self):
        calls = Calls(Hook("tint", "first", [("mode", "word")], gives="word"))
        case = Case(calls, ((Value("x"), ("a",)), (Moved("mode"), ("b",))))
        self.assertEqual((case({"mode": "x"}), case({"mode": "y"})), (("x",), ("x", "y")))

    def test_signatures(self):
        self.assertEqual(str(inspect.signature(Case)), "(calls, results)")
        self.assertEqual(str(inspect.signature(Case.__call__)), "(self, call)")


class Both(unittest.TestCase):
    def test_errors(self):
        ring = made(SHADE, Part("shade", NONE, before=["b"]), Part("shade", NONE, before=["a"]))
        for work in (table, sure):
            self.assertEqual(fault(lambda: work(ring, "tint")), (NoHook, {"name": "tint"}))
            self.assertEqual(fault(lambda: work(ring, "shade")), (Barred, {"hook": "shade", "names": ("a", "b")}))

    def test_drawn_rings(self):
        rng = random.Random(45)
        for _ in range(60):
            host = host_for(rng, [SHADE], 4, rings=True, wishing=0.5)
            barred = None if has_order(host, "shade") else (Barred, {"hook": "shade", "names": host.row("shade").ring})
            self.assertEqual([fault(lambda: work(host, "shade")) for work in (table, sure)], [barred, barred])

    def test_arguments(self):
        host = made(SHADE, ("number", 1), ("number", 2))
        for work in (table, sure):
            self.assertEqual(str(inspect.signature(work)), "(host, hook)")
        self.assertEqual(sure(hook="shade", host=host), sure(host, "shade"))
        self.assertEqual([shown(case) for case in table(hook="shade", host=host)],
                         [shown(case) for case in table(host, "shade")])
        self.assertEqual(host, made(SHADE, ("number", 1), ("number", 2)))


if __name__ == "__main__":
    unittest.main()
