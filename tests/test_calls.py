"""Sets of calls: points [1], [2], [3], [15], [16], [17]."""

import copy
import itertools
import random
import unittest
import unittest.mock

import grids
from hookrow.calls import Calls
from hookrow.errors import BadCall, InvalidCalls
from hookrow.hooks import Hook

TRIM = Hook(
    "trim", "through", [("text", "word"), ("size", "number", 3)], only=[("mode", "word", "hard")], gives="word",
)
SHADE = Hook("shade", "first", [("size", "number")])
TINT = Hook("tint", "first", [("mode", "word")])
MIX = Hook("mix", "each", [("m", "number"), ("w", "word")], only=[("a", "number", 0)])
BARE = Hook("bare", "first", [])
HOOKS = (SHADE, TINT, MIX, TRIM, BARE)

THINGS = [
    None, True, False, 0, 1, 5, "", "a", "ab", "red", (), (1,), ("a",), (1, 2, 3), (("a",), True, 1), [], [1, 2],
    [None, None], [["a"], True], {}, {1: 2}, {"a": True}, 1.5, b"ab", object(), Hook, Calls,
]
NO_ENDS = [True, False, 1.0, 2.5, "1", "a", "", (), (1,), [], [1], {}, b"1", object(), Hook]
NO_WORDS = [
    "", "A", "Ab", "a1", "a b", "abcdefghi", "\xe4", "'a", 0, 1, None, True, (), ("a",), [], ["a"], b"a", object(),
]
NO_INSIDES = [0, 1, None, "", "a", "True", (), (True,), [], [True], 1.0, object(), bool]


def fault(*args, **named):
    """The name that `Calls` tells in its error."""
    try:
        Calls(*args, **named)
    except InvalidCalls as error:
        return error.name
    return "no fault"


def bounds_of(calls):
    return {name: calls.bound(name) for name in calls.hook.names}


class MadeCalls(unittest.TestCase):
    def test_hook(self):
        for hook in HOOKS:
            self.assertEqual(Calls(hook).hook, hook)
            self.assertEqual(Calls(hook, {}).hook, hook)

    def test_by_name(self):
        calls = Calls(bounds={"size": (1, 2)}, hook=SHADE)
        self.assertEqual(calls.hook, SHADE)
        self.assertEqual(calls.bound(name="size"), (1, 2))
        self.assertTrue(calls.within(other=Calls(SHADE)))
        self.assertEqual(calls.where(test=("most", "size", 0)), ())

    def test_bounds_of_numbers(self):
        ends = [None, 0, 1, -1, 5, 3, -1000000, 1000000, 10 ** 30]
        for low, high in itertools.product(ends, ends):
            self.assertEqual(Calls(SHADE, {"size": (low, high)}).bound("size"), (low, high))

    def test_bounds_of_words_in_normal_form(self):
        for form in (list, tuple):
            for inside in (True, False):
                for words, normal in [
                    ([], ()), (["red"], ("red",)), (["b", "a"], ("a", "b")), (["a", "a"], ("a",)),
                    (["c", "a", "b", "a", "c"], ("a", "b", "c")), (["b", "abcdefgh", "ab"], ("ab", "abcdefgh", "b")),
                    (["inner", "if", "none"], ("if", "inner", "none")),
                ]:
                    bound = Calls(TINT, {"mode": (form(words), inside)}).bound("mode")
                    self.assertEqual(bound, (normal, inside))
                    self.assertIs(type(bound[0]), tuple)
                    self.assertIs(bound[1], inside)

    def test_parameters_without_a_bound(self):
        self.assertEqual(bounds_of(Calls(TRIM)), {"text": ((), False), "size": (None, None), "mode": ((), False)})
        self.assertEqual(bounds_of(Calls(TRIM, {})), bounds_of(Calls(TRIM)))
        some = Calls(TRIM, {"size": (None, 4)})
        self.assertEqual(bounds_of(some), {"text": ((), False), "size": (None, 4), "mode": ((), False)})
        self.assertIs(some.bound("mode")[1], False)

    def test_bounds_in_which_no_value_is_stay(self):
        calls = Calls(TRIM, {"size": (5, 3), "text": ([], True)})
        self.assertEqual(bounds_of(calls), {"text": ((), True), "size": (5, 3), "mode": ((), False)})

    def test_unknown_parameters_have_no_bound(self):
        for hook, name in [
            (TRIM, "kind"), (TRIM, ""), (TRIM, "inner"), (SHADE, "mode"), (BARE, "size"), (TRIM, "Size"),
        ]:
            with self.assertRaises(BadCall) as caught:
                Calls(hook).bound(name)
            self.assertEqual((caught.exception.word, caught.exception.name), ("unknown", name))

    def test_any_things_as_bounds(self):
        for hook, name in [(SHADE, "size"), (TINT, "mode"), (MIX, "a"), (TRIM, "mode")]:
            for thing in THINGS:
                self.assertEqual(fault(hook, {name: thing}), name, thing)

    def test_bounds_of_the_other_sort(self):
        for bound in [(None, None), (1, 2), (None, 2), (1, None)]:
            self.assertEqual(fault(TINT, {"mode": bound}), "mode")
        for bound in [((), False), ([], True), (["a"], True), (("a", "b"), False)]:
            self.assertEqual(fault(SHADE, {"size": bound}), "size")

    def test_ends_that_are_no_integers(self):
        for end in NO_ENDS:
            self.assertEqual(fault(SHADE, {"size": (end, 5)}), "size", end)
            self.assertEqual(fault(SHADE, {"size": (5, end)}), "size", end)
            self.assertEqual(fault(SHADE, {"size": (end, None)}), "size", end)
            self.assertEqual(fault(SHADE, {"size": (None, end)}), "size", end)

    def test_items_that_are_no_words(self):
        for thing in NO_WORDS:
            for words in ([thing], (thing,), ["a", thing], (thing, "b"), ["a", thing, "b"]):
                self.assertEqual(fault(TINT, {"mode": (words, True)}), "mode", thing)
                self.assertEqual(fault(TINT, {"mode": (words, False)}), "mode", thing)

    def test_words_in_no_list_and_no_tuple(self):
        for words in ["", "a", "ab", None, 0, 5, True, {}, {"a": 1}, {"a"}, set(), b"a", object(), iter(["a"])]:
            self.assertEqual(fault(TINT, {"mode": (words, True)}), "mode", words)
            self.assertEqual(fault(TINT, {"mode": (words, False)}), "mode", words)

    def test_inside_that_is_no_boolean(self):
        for thing in NO_INSIDES:
            self.assertEqual(fault(TINT, {"mode": (["a"], thing)}), "mode", thing)
            self.assertEqual(fault(TINT, {"mode": ((), thing)}), "mode", thing)

    def test_tuples_of_other_lengths_and_lists(self):
        for bound in [(), (1,), (1, 2, 3), [1, 2], (1, 2, None)]:
            self.assertEqual(fault(SHADE, {"size": bound}), "size")
        for bound in [(), (["a"],), (["a"], True, True), [["a"], True]]:
            self.assertEqual(fault(TINT, {"mode": bound}), "mode")

    def test_keys_that_are_no_parameters(self):
        for key in ["", "kind", "Size", "size ", "hook", "inner", "0", "zz"]:
            self.assertEqual(fault(SHADE, {key: (1, 2)}), key)
            self.assertEqual(fault(SHADE, {"size": (1, 2), key: None}), key)
        self.assertEqual(fault(BARE, {"size": (None, None)}), "size")

    def test_the_alphabetically_first_key(self):
        wrong = {"a": (True, 1), "m": (1, 2, 3), "w": (["A"], True), "b": (1, 2), "x": ((), False), "": None, "A": 1}
        for many in range(1, len(wrong) + 1):
            for keys in itertools.permutations(wrong, many):
                self.assertEqual(fault(MIX, {key: wrong[key] for key in keys}), min(keys))
        self.assertEqual(fault(MIX, {"w": ([""], True), "a": (1, 2), "m": (1, "2")}), "m")
        self.assertEqual(fault(MIX, {"w": ([""], True), "m": (1, 2), "a": (1, 2), "v": (1, 2)}), "v")

    def test_what_was_passed_is_emptied_behind(self):
        words = ["b", "a"]
        bounds = {"mode": (words, True), "size": (1, 2)}
        calls = Calls(TRIM, bounds)
        words.clear()
        bounds.clear()
        self.assertEqual(bounds_of(calls), {"text": ((), False), "size": (1, 2), "mode": (("a", "b"), True)})
        self.assertTrue(calls)

    def test_what_was_passed_is_not_changed(self):
        bounds = {"mode": (["b", "a", "b"], True), "size": (5, None)}
        kept = copy.deepcopy(bounds)
        Calls(TRIM, bounds)
        self.assertEqual(bounds, kept)

    def test_beyond_the_limits(self):
        words = [f"{one}{other}" for one in "zyx" for other in "abcdefghijklmnopqrstuvwxyz"]
        calls = Calls(TRIM, {"mode": (words, False), "size": (-10 ** 9, 10 ** 9 + 1)})
        self.assertEqual(calls.bound("mode"), (tuple(sorted(words)), False))
        self.assertEqual(calls.bound("size"), (-10 ** 9, 10 ** 9 + 1))


class InCalls(unittest.TestCase):
    def test_ends_of_numbers(self):
        for low, high, some, others in [
            (2, 5, [2, 3, 5], [1, 6, -3, 0]), (None, 5, [5, -10 ** 6, 0], [6, 10 ** 6]),
            (2, None, [2, 10 ** 6], [1, -2]),
            (None, None, [0, 10 ** 6, -10 ** 6], []), (3, 3, [3], [2, 4]), (5, 3, [], [3, 4, 5]), (0, 0, [0], [1, -1]),
        ]:
            calls = Calls(SHADE, {"size": (low, high)})
            for value in some:
                self.assertIs({"size": value} in calls, True)
            for value in others:
                self.assertIs({"size": value} in calls, False)
                self.assertIs({"size": value} not in calls, True)

    def test_words(self):
        for words, inside, some, others in [
            (["a", "b"], True, ["a", "b"], ["c", "ab"]), (["a", "b"], False, ["c", "ab"], ["a", "b"]),
            ([], True, [], ["a", "b"]), ([], False, ["a", "abcdefgh"], []),
        ]:
            calls = Calls(TINT, {"mode": (words, inside)})
            for value in some:
                self.assertIs({"mode": value} in calls, True)
            for value in others:
                self.assertIs({"mode": value} in calls, False)

    def test_all_parameters_count(self):
        calls = Calls(MIX, {"m": (1, 1), "w": (["a"], True), "a": (2, 2)})
        for call in grids.grid(MIX):
            self.assertIs(call in calls, call == {"m": 1, "w": "a", "a": 2})

    def test_without_parameters(self):
        self.assertIs({} in Calls(BARE), True)

    def test_by_a_look_at_a_grid(self):
        for hook in HOOKS:
            for bounds in grids.many_bounds(hook, 40, hook.name):
                calls = Calls(hook, bounds)
                for call in grids.grid(hook):
                    self.assertIs(call in calls, grids.inside(bounds, call))

    def test_of_what_bind_returns(self):
        calls = Calls(TRIM, {"size": (3, 3), "mode": (["hard"], True)})
        self.assertIn(TRIM.bind(["red"], {}), calls)
        self.assertNotIn(TRIM.bind(["red", 4], {}), calls)
        self.assertNotIn(TRIM.bind(["red"], {"mode": "soft"}), calls)


class Signs(unittest.TestCase):
    def test_bool(self):
        for bounds, some in [
            ({}, True), ({"m": (1, 1)}, True), ({"m": (2, 1)}, False), ({"a": (2, 1)}, False),
            ({"w": ([], True)}, False),
            ({"w": (["a"], True)}, True), ({"w": ([], False)}, True), ({"w": (["a"], False)}, True),
            ({"m": (None, -5), "a": (7, None)}, True), ({"m": (0, 5), "w": (["a"], True), "a": (5, 3)}, False),
        ]:
            self.assertIs(bool(Calls(MIX, bounds)), some)
        self.assertIs(bool(Calls(BARE)), True)
        self.assertIs(bool(Calls(SHADE, {"size": (1, 0)})), False)
        self.assertIs(bool(Calls(TINT, {"mode": ((), True)})), False)

    def test_common_bounds(self):
        for one, other, both in [
            ((1, 5), (3, 9), (3, 5)), ((None, 5), (3, None), (3, 5)), ((None, None), (3, 5), (3, 5)),
            ((None, 5), (None, 3), (None, 3)), ((1, None), (3, None), (3, None)), ((1, 2), (4, 5), (4, 2)),
            ((None, None), (None, None), (None, None)), ((0, 5), (-3, 0), (0, 0)), ((5, 3), (None, None), (5, 3)),
        ]:
            for left, right in [(one, other), (other, one)]:
                made = Calls(SHADE, {"size": left}) & Calls(SHADE, {"size": right})
                self.assertEqual(made.bound("size"), both)
                self.assertEqual(made.hook, SHADE)

    def test_common_words(self):
        for one, other, both in [
            ((["a", "b"], True), (["b", "c"], True), (("b",), True)), ((["a"], True), (["b"], True), ((), True)),
            ((["a", "b"], True), (["b", "c"], False), (("a",), True)),
            ((["a"], False), (["b"], False), (("a", "b"), False)),
            ((["c", "a"], False), (["b", "a"], False), (("a", "b", "c"), False)),
            (([], False), ([], False), ((), False)),
            (([], True), ([], False), ((), True)), (([], True), (["a"], True), ((), True)),
            ((["c", "a", "b"], True), ([], False), (("a", "b", "c"), True)),
        ]:
            for left, right in [(one, other), (other, one)]:
                made = Calls(TINT, {"mode": left}) & Calls(TINT, {"mode": right})
                self.assertEqual(made.bound("mode"), both)

    def test_signs_by_a_look_at_a_grid(self):
        for hook in HOOKS:
            several = [(Calls(hook, each), each) for each in grids.many_bounds(hook, 25, hook.name + " signs")]
            seen = [[call for call in grids.grid(hook) if grids.inside(bounds, call)] for _, bounds in several]
            for (one, _), calls in zip(several, seen):
                self.assertIs(bool(one), bool(calls))
                for (other, bounds), others in zip(several, seen):
                    both = one & other
                    self.assertEqual([call for call in grids.grid(hook) if call in both],
                                     [call for call in calls if call in others])
                    self.assertIs(bool(both), any(call in others for call in calls))
                    self.assertIs(one.within(other), all(call in others for call in calls))
                    self.assertIs(one == other, calls == others)
                    self.assertIs(one != other, calls != others)

    def test_equal_by_their_calls(self):
        self.assertEqual(Calls(SHADE, {"size": (None, None)}), Calls(SHADE))
        self.assertEqual(Calls(TINT, {"mode": (["a", "b", "a"], True)}), Calls(TINT, {"mode": (("b", "a"), True)}))
        self.assertNotEqual(Calls(TINT, {"mode": (["a"], True)}), Calls(TINT, {"mode": (["a"], False)}))
        self.assertNotEqual(Calls(SHADE, {"size": (1, 2)}), Calls(SHADE, {"size": (1, 3)}))
        self.assertNotEqual(Calls(SHADE, {"size": (1, None)}), Calls(SHADE, {"size": (2, None)}))

    def test_empty_sets(self):
        empty = [{"m": (5, 3)}, {"m": (1, 0), "w": (["a"], True)}, {"w": ([], True)}, {"a": (9, -9)}]
        for one, other in itertools.product(empty, empty):
            self.assertTrue(Calls(MIX, one) == Calls(MIX, other))
            self.assertFalse(Calls(MIX, one) != Calls(MIX, other))
            self.assertTrue(Calls(MIX, one).within(Calls(MIX, other)))
        for bounds in [{}, {"m": (4, 4)}, {"w": (["b"], True)}]:
            self.assertTrue(Calls(MIX, empty[0]).within(Calls(MIX, bounds)))
            self.assertFalse(Calls(MIX, bounds).within(Calls(MIX, empty[0])))
            self.assertNotEqual(Calls(MIX, bounds), Calls(MIX, empty[2]))

    def test_unequal_hooks_and_other_things(self):
        again = Hook("shade", "first", [("size", "number")])
        self.assertEqual(Calls(SHADE, {"size": (1, 2)}), Calls(again, {"size": (1, 2)}))
        for other in [
            Hook("shade", "each", [("size", "number")]), Hook("shadow", "first", [("size", "number")]),
            Hook("shade", "first", [("size", "number", 1)]), Hook("shade", "first", [], only=[("size", "number")]),
        ]:
            self.assertNotEqual(Calls(SHADE), Calls(other))
            self.assertNotEqual(Calls(SHADE, {"size": (2, 1)}), Calls(other, {"size": (2, 1)}))
        for thing in [
            None, True, (), [], {}, {"size": (None, None)}, "shade", 0, SHADE, object(), Calls, unittest.mock.ANY,
        ]:
            self.assertIs(Calls(SHADE) == thing, False)
            self.assertIs(Calls(SHADE) != thing, True)

    def test_hooks_that_are_equal_but_made_anew(self):
        again = Hook("shade", "first", [("size", "number")])
        one, other = Calls(SHADE, {"size": (1, 5)}), Calls(again, {"size": (3, 9)})
        self.assertEqual((one & other).bound("size"), (3, 5))
        self.assertEqual([each.bound("size") for each in one - other], [(1, 2)])
        self.assertFalse(one.within(other))
        self.assertTrue(one.within(Calls(again)))

    def test_sets_stay_as_they_are(self):
        one, other = Calls(MIX, {"m": (1, 5), "w": (["a", "b"], True)}), Calls(MIX, {"m": (3, 4), "w": (["b"], False)})
        kept = bounds_of(one), bounds_of(other)
        for _ in range(2):
            one & other, one - other, one.within(other), one == other, one.least, one.where(("most", "m", 3)), bool(one)
            self.assertEqual((bounds_of(one), bounds_of(other)), kept)


class Differences(unittest.TestCase):
    def check(self, hook, one, other):
        """Compares a difference with what a look at the grid tells, set by set."""
        calls = [call for call in grids.grid(hook) if grids.inside(one, call)]
        told = Calls(hook, one) - Calls(hook, other)
        self.assertIs(type(told), tuple)
        if not any(grids.inside(other, call) for call in grids.grid(hook)):
            self.assertEqual([each == Calls(hook, one) for each in told], [True] if calls else [])
            self.assertEqual([bounds_of(each) for each in told], [bounds_of(Calls(hook, one))] if calls else [])
            return
        parts, left = [], calls
        for name in hook.names:
            first, second = other.get(name, (None, None))
            if isinstance(second, bool):
                sides = [lambda value: (value in first) is not second]
            else:
                sides = [
                    lambda value: first is not None and value < first,
                    lambda value: second is not None and value > second,
                ]
            for side in sides:
                parts.append([call for call in left if side(call[name])])
            left = [call for call in left if not any(side(call[name]) for side in sides)]
        self.assertEqual([[call for call in calls if call in each] for each in told], [part for part in parts if part])
        for each in told:
            self.assertTrue(each)
            self.assertEqual(each.hook, hook)
        for first, second in itertools.combinations(told, 2):
            self.assertFalse(first & second)
        outside = [call for call in grids.grid(hook) if not grids.inside(one, call)]
        self.assertFalse([call for call in outside if any(call in each for each in told)])

    def test_by_a_look_at_a_grid(self):
        for hook in HOOKS:
            several = grids.many_bounds(hook, 20, hook.name + " differences") + [{}]
            for one, other in itertools.product(several, several):
                self.check(hook, one, other)

    def test_one_number(self):
        for one, other, told in [
            ((1, 9), (3, 5), [(1, 2), (6, 9)]), ((1, 9), (None, 5), [(6, 9)]), ((1, 9), (3, None), [(1, 2)]),
            ((1, 9), (None, None), []), ((1, 9), (1, 9), []), ((1, 9), (0, 10), []), ((1, 9), (1, 5), [(6, 9)]),
            ((1, 9), (5, 9), [(1, 4)]), ((None, None), (3, 5), [(None, 2), (6, None)]), ((1, 9), (20, 30), [(1, 9)]),
            ((1, 9), (-5, 0), [(1, 9)]), ((1, 9), (5, 3), [(1, 9)]), ((5, 3), (1, 2), []), ((5, 3), (9, 1), []),
            ((None, 4), (2, 9), [(None, 1)]), ((4, None), (2, 9), [(10, None)]), ((1, 1), (2, 2), [(1, 1)]),
            ((-10 ** 6, 10 ** 6), (-10 ** 6 + 1, 10 ** 6 - 1), [(-10 ** 6, -10 ** 6), (10 ** 6, 10 ** 6)]),
            ((None, None), (-10 ** 6, 10 ** 6), [(None, -10 ** 6 - 1), (10 ** 6 + 1, None)]),
        ]:
            found = Calls(SHADE, {"size": one}) - Calls(SHADE, {"size": other})
            self.assertEqual([each.bound("size") for each in found], told)

    def test_one_word(self):
        for one, other, told in [
            ((["a", "b"], True), (["b", "c"], True), [(("a",), True)]),
            ((["a", "b"], True), (["b"], False), [(("b",), True)]),
            ((["a"], False), (["b"], True), [(("a", "b"), False)]),
            ((["a"], False), (["a", "b"], False), [(("b",), True)]),
            ((["a"], True), (["a", "b"], True), []), ((["a"], True), (["b"], False), []),
            ((["a"], False), ([], False), []),
            (([], False), ([], False), []), ((["a", "b"], False), (["a"], False), []), (([], True), (["a"], True), []),
            ((["a"], True), ([], True), [(("a",), True)]), (([], True), ([], True), []),
            (([], False), (["b", "a"], True), [(("a", "b"), False)]),
        ]:
            found = Calls(TINT, {"mode": one}) - Calls(TINT, {"mode": other})
            self.assertEqual([each.bound("mode") for each in found], told)

    def test_three_parameters_in_their_order(self):
        one = Calls(MIX, {"m": (0, 9), "w": (["a", "b"], True), "a": (0, None)})
        other = Calls(MIX, {"m": (3, 5), "w": (["a"], False), "a": (2, 4)})
        self.assertEqual([bounds_of(each) for each in one - other], [
            {"m": (0, 2), "w": (("a", "b"), True), "a": (0, None)},
            {"m": (6, 9), "w": (("a", "b"), True), "a": (0, None)},
            {"m": (3, 5), "w": (("a",), True), "a": (0, None)},
            {"m": (3, 5), "w": (("b",), True), "a": (0, 1)}, {"m": (3, 5), "w": (("b",), True), "a": (5, None)},
        ])

    def test_without_parameters(self):
        self.assertEqual(Calls(BARE) - Calls(BARE), ())

    def test_behind_many_differences(self):
        """What is left is passed on far beyond the limits."""
        left, out = Calls(TRIM), []
        for step in range(30):
            words = [f"{letter}{'abcdefghijklmnopqrstuvwxyzabcd'[step]}" for letter in "uvwxyz"]
            words = [word if step < 26 else f"{word}q" for word in words]
            out += words
            parts = left - Calls(TRIM, {"mode": (words, True)})
            self.assertEqual(len(parts), 1)
            left, = parts
        self.assertEqual(left.bound("mode"), (tuple(sorted(out)), False))
        self.assertEqual(len(out), 180)
        again = Calls(TRIM, {"mode": left.bound("mode")})
        self.assertEqual(again, left)
        self.assertNotIn({"text": "a", "size": 1, "mode": "uq"}, again)
        for step in range(30):
            high = left.bound("size")[1]
            left = (left - Calls(TRIM, {"size": (10 ** 6 - step if high is None else high, None)}))[0]
        self.assertEqual(left.bound("size"), (None, 10 ** 6 - 30))


class Least(unittest.TestCase):
    def first(self, bound):
        order = [0] + [sign * number for number in range(1, 20) for sign in (1, -1)]
        return next(number for number in order if grids.fits(bound, number))

    def test_numbers(self):
        ends = [None, *range(-8, 9)]
        for low, high in itertools.product(ends, ends):
            calls = Calls(SHADE, {"size": (low, high)})
            if low is not None and high is not None and low > high:
                self.assertIsNone(calls.least)
            else:
                self.assertEqual(calls.least, {"size": self.first((low, high))})
        self.assertEqual(Calls(SHADE, {"size": (-10 ** 6, -999)}).least, {"size": -999})
        self.assertEqual(Calls(SHADE, {"size": (10 ** 30, None)}).least, {"size": 10 ** 30})

    def test_words(self):
        letters = "abcdefghijklmnopqrstuvwxyz"
        pairs = [one + other for one in letters for other in letters]
        for words, inside, word in [
            ([], False, "a"), (["a"], False, "b"), (["b"], False, "a"), (["a", "b", "d"], False, "c"),
            (list(letters), False, "aa"), (list(letters[1:]), False, "a"), (list(letters) + ["aa", "ab"], False, "ac"),
            (list(letters) + pairs, False, "aaa"), (list(letters) + pairs[:300] + pairs[301:], False, pairs[300]),
            (list(letters) + pairs + ["aaa", "aab", "zzz"], False, "aac"), (pairs, False, "a"),
            (list(letters) + pairs[:-1], False, "zz"),
            (["b", "a"], True, "a"), (["aa", "b"], True, "b"), (["abc", "zz", "yyyy"], True, "zz"),
            (["zzzzzzzz"], True, "zzzzzzzz"), (["ab", "aa", "ba"], True, "aa"), (["ccc", "b", "aaaa", "bb"], True, "b"),
        ]:
            self.assertEqual(Calls(TINT, {"mode": (words, inside)}).least, {"mode": word})
        self.assertIsNone(Calls(TINT, {"mode": ([], True)}).least)

    def test_all_words_of_three_letters_left_out_but_one(self):
        letters = "abcdefghijklmnopqrstuvwxyz"
        words = ["".join(each) for many in (1, 2, 3) for each in itertools.product(letters, repeat=many)]
        words.remove("xyz")
        self.assertEqual(Calls(TINT, {"mode": (words, False)}).least, {"mode": "xyz"})

    def test_several_parameters(self):
        calls = Calls(MIX, {"m": (None, -3), "w": (["bb", "c"], True), "a": (2, 5)})
        self.assertEqual(calls.least, {"m": -3, "w": "c", "a": 2})
        self.assertIsNone(Calls(MIX, {"m": (None, -3), "a": (5, 2)}).least)
        self.assertEqual(Calls(MIX).least, {"m": 0, "w": "a", "a": 0})

    def test_without_parameters(self):
        self.assertEqual(Calls(BARE).least, {})

    def test_is_in_the_set_and_new_each_time(self):
        for hook in HOOKS:
            for bounds in grids.many_bounds(hook, 40, hook.name + " least"):
                calls = Calls(hook, bounds)
                least = calls.least
                self.assertIs(least is None, not calls)
                if least is not None:
                    self.assertIn(least, calls)
                    self.assertEqual(sorted(least), sorted(hook.names))
                    least.clear()
                    self.assertIsNotNone(calls.least)
                    self.assertEqual(sorted(calls.least), sorted(hook.names))


class Where(unittest.TestCase):
    def check(self, hook, bounds, test):
        told = Calls(hook, bounds).where(test)
        self.assertIs(type(told), tuple)
        for call in grids.grid(hook):
            times = sum(call in each for each in told)
            self.assertEqual(times, int(grids.inside(bounds, call) and grids.holds(test, call)), (bounds, test, call))
        for each in told:
            self.assertIsInstance(each, Calls)
            self.assertTrue(each)
            self.assertEqual(each.hook, hook)
        for one, other in itertools.combinations(told, 2):
            self.assertFalse(one & other)

    def test_each_form(self):
        most, least = ("most", "m", 2), ("not", ("most", "m", -2))
        red, free = ("is", "w", "a"), ("most", "a", 0)
        tests = [
            most, least, red, ("not", most), ("not", red), ("not", ("not", most)), ("both", most, least),
            ("either", most, least), ("both", most, red), ("either", red, free), ("not", ("both", most, red)),
            ("not", ("either", most, red)), ("both", ("not", red), ("either", most, ("both", least, free))),
            ("either", ("both", most, red), ("both", ("not", most), free)), ("both", red, ("is", "w", "b")),
            ("either", red, ("not", red)), ("both", most, ("not", most)), ("either", most, most), ("both", red, red),
            ("not", ("not", ("not", ("either", ("both", red, free), ("not", least))))),
        ]
        several = [
            {}, {"m": (0, 4)}, {"m": (None, 2)}, {"m": (3, None)}, {"w": (["a"], True)}, {"w": (["a"], False)},
            {"w": (["b", "c"], True), "m": (-1, 3)}, {"m": (3, 1)}, {"w": ([], True)},
            {"a": (0, 0), "w": (["b"], False)},
        ]
        for test, bounds in itertools.product(tests, several):
            self.check(MIX, bounds, test)

    def test_ends(self):
        for at, bound, told in [
            (5, (1, 9), [(1, 5)]), (0, (1, 9), []), (1, (1, 9), [(1, 1)]), (9, (1, 9), [(1, 9)]),
            (10, (1, 9), [(1, 9)]),
            (10 ** 6, (None, None), [(None, 10 ** 6)]), (-10 ** 6, (None, None), [(None, -10 ** 6)]), (3, (5, 1), []),
        ]:
            found = Calls(SHADE, {"size": bound}).where(("most", "size", at))
            self.assertEqual([each.bound("size") for each in found], told)
        denied = Calls(SHADE).where(("not", ("most", "size", 10 ** 6)))
        self.assertEqual([each.bound("size") for each in denied], [(10 ** 6 + 1, None)])

    def test_words(self):
        found = Calls(TINT, {"mode": (["a"], False)}).where(("is", "mode", "a"))
        self.assertEqual(found, ())
        found = Calls(TINT, {"mode": (["a"], False)}).where(("is", "mode", "b"))
        self.assertEqual([each.bound("mode") for each in found], [(("b",), True)])
        found = Calls(TINT, {"mode": (["a"], False)}).where(("not", ("is", "mode", "b")))
        self.assertEqual([each.bound("mode") for each in found], [(("a", "b"), False)])

    def test_empty_set(self):
        most, red = ("most", "m", 3), ("is", "w", "a")
        for test in [most, ("not", most), red, ("both", most, red), ("either", red, ("not", red))]:
            self.assertEqual(Calls(MIX, {"a": (1, 0)}).where(test), ())

    def test_by_chance(self):
        rng = random.Random("where")
        for hook in (SHADE, TINT, MIX, TRIM):
            for _ in range(60):
                self.check(hook, grids.some_bounds(rng, hook), grids.some_test(rng, hook, rng.randrange(6)))

    def test_many_tests_at_once(self):
        """Ten tests, the most that one hook has, leave few sets, and more of them are no trouble."""
        test = ("most", "m", 0)
        for at in range(1, 10):
            test = ("either", ("both", test, ("not", ("most", "a", at))), ("is", "w", grids.WORDS[at % 3]))
        self.check(MIX, {}, test)
        for at in range(60):
            test = ("not", ("not", ("both", test, ("either", ("most", "m", -at), ("not", ("most", "a", at))))))
        for each in Calls(MIX).where(test):
            self.assertTrue(grids.holds(test, each.least))


class Examples(unittest.TestCase):
    def test_examples(self):
        some = Calls(TRIM, {"size": (2, None), "mode": (["soft"], False)})
        self.assertEqual(some.least, {"text": "a", "size": 2, "mode": "a"})
        self.assertNotIn({"text": "a", "size": 1, "mode": "a"}, some)
        self.assertEqual([one.bound("size") for one in Calls(TRIM) - some], [(None, 1), (2, None)])
        self.assertEqual([one.bound("mode") for one in Calls(TRIM) - some], [((), False), (("soft",), True)])


if __name__ == "__main__":
    unittest.main()
