"""Terms: points [2], [18], [19], and what a result is ([32])."""

import copy
import itertools
import random
import unittest
import unittest.mock

from hookrow.calls import Calls
from hookrow.hooks import Hook
from hookrow.terms import Failure, Moved, Value, parting, written

SHADE = Hook("shade", "first", [("size", "number")])
THREE = Hook("three", "each", [("a", "number"), ("b", "number")], only=[("c", "number")])
TINT = Hook("tint", "first", [("mode", "word"), ("hue", "word"), ("size", "number")], gives="word")
BARE = Hook("bare", "first", [])

TERMS = [
    Value(0), Value(1), Value(-1), Value(3), Value("red"), Value("none"), Value("size"), Value(None),
    Moved("size"), Moved("size", 1), Moved("size", -1), Moved("mode"), Moved("red"),
    Failure("tint", "red"), Failure("red", "tint"), Failure("tint", "tint"), Failure("size", "red"),
]


def value_of(result, call):
    """The value of a result at a call, in a form that tells all values apart."""
    if isinstance(result, tuple):
        return tuple(value_of(item, call) for item in result)
    if isinstance(result, Failure):
        return ("failed", result.word, result.plugin)
    return ("told", result(call))


def all_calls(hook, columns):
    return [dict(zip(hook.names, values)) for values in itertools.product(*columns)]


def parts(one, other, call):
    """Whether an item of `one` has a value at a call that no item of `other` has there."""
    values = [value_of(item, call) for item in other]
    return any(value_of(item, call) not in values for item in one)


class MadeTerms(unittest.TestCase):
    def test_values(self):
        for value in [3, 0, -7, "red", "none", None, 10 ** 9]:
            for term in [Value(value), Value(value=value)]:
                self.assertEqual(term.value, value)
                self.assertEqual(term({"size": 5}), value)
                self.assertEqual(term(call={}), value)

    def test_moved(self):
        for term in [Moved("size"), Moved(name="size"), Moved("size", 0), Moved(shift=0, name="size")]:
            self.assertEqual((term.name, term.shift), ("size", 0))
            self.assertEqual(term({"size": 5, "mode": "red"}), 5)
            self.assertEqual(term(call={"size": -5}), -5)
        for shift in [1, -1, 2, -9, 10 ** 6]:
            for term in [Moved("size", shift), Moved(shift=shift, name="size")]:
                self.assertEqual((term.name, term.shift), ("size", shift))
                self.assertEqual(term({"size": 5}), 5 + shift)
        self.assertEqual(Moved("mode")({"mode": "red", "size": 1}), "red")

    def test_failures(self):
        for term in [Failure("tint", "red"), Failure(word="tint", plugin="red"), Failure(plugin="red", word="tint")]:
            self.assertEqual((term.word, term.plugin), ("tint", "red"))
            self.assertEqual(term({"size": 5}), Failure("tint", "red"))
            self.assertEqual(term(call={}), term)
            self.assertIsInstance(term({}), Failure)

    def test_calls_are_not_changed(self):
        call = {"size": 5, "mode": "red"}
        for term in [Value(3), Moved("size", 2), Moved("mode"), Failure("a", "b")]:
            term(call)
        self.assertEqual(call, {"size": 5, "mode": "red"})

    def test_equal(self):
        for one, other in itertools.product(range(len(TERMS)), repeat=2):
            self.assertIs(TERMS[one] == copy.deepcopy(TERMS[other]), one == other)
            self.assertIs(TERMS[one] != copy.deepcopy(TERMS[other]), one != other)
        self.assertEqual(Moved("size"), Moved("size", 0))

    def test_equal_to_nothing_else(self):
        for term in TERMS:
            for thing in [None, 3, "red", "size", ("size", 0), 0, True, (), [], {}, object(), Value, unittest.mock.ANY]:
                self.assertIs(term == thing, False)
                self.assertIs(term != thing, True)

    def test_str(self):
        for term, text in [
            (Value(3), "3"), (Value(0), "0"), (Value(-3), "-3"), (Value(1000000), "1000000"), (Value("red"), "'red"),
            (Value("none"), "'none"), (Value(None), "none"), (Moved("size"), "size"), (Moved("size", 0), "size"),
            (Moved("size", 2), "size + 2"), (Moved("size", -2), "size - 2"), (Moved("a", 1), "a + 1"),
            (Moved("mode"), "mode"), (Moved("size", -1000), "size - 1000"),
            (Failure("tint", "red"), "red failed: tint"),
            (Failure("none", "a"), "a failed: none"),
        ]:
            self.assertEqual(str(term), text)


class Written(unittest.TestCase):
    def test_parameters_with_one_value(self):
        box = Calls(TINT, {"size": (5, 5), "mode": (["red"], True), "hue": (["a", "b"], True)})
        for term, told in [
            (Moved("size"), Value(5)), (Moved("size", 2), Value(7)), (Moved("size", -5), Value(0)),
            (Moved("mode"), Value("red")), (Moved("hue"), Moved("hue")), (Value(5), Value(5)),
            (Value(None), Value(None)),
            (Value("red"), Value("red")), (Failure("size", "mode"), Failure("size", "mode")),
        ]:
            self.assertEqual(written(term, box), told)
            self.assertEqual(written(term=term, calls=box), told)
            self.assertEqual(written(written(term, box), box), told)

    def test_zero_is_one_value(self):
        self.assertEqual(written(Moved("size"), Calls(SHADE, {"size": (0, 0)})), Value(0))
        self.assertEqual(written(Moved("size", -1), Calls(SHADE, {"size": (1, 1)})), Value(0))

    def test_parameters_with_more_values(self):
        for bound in [(5, 6), (None, 5), (5, None), (None, None), (-1, 1), (0, 1)]:
            for term in [Moved("size"), Moved("size", 3), Moved("size", -3), Value(5), Failure("a", "b")]:
                self.assertEqual(written(term, Calls(SHADE, {"size": bound})), term)
        for bound in [(["a", "b"], True), (["a"], False), ([], False), (["a", "b"], False)]:
            self.assertEqual(written(Moved("mode"), Calls(TINT, {"mode": bound})), Moved("mode"))
        self.assertEqual(written(Moved("mode"), Calls(TINT, {"mode": (["a", "a"], True)})), Value("a"))

    def test_tuples(self):
        box = Calls(THREE, {"a": (5, 5), "b": (1, 2)})
        for term, told in [
            ((), ()), ((Moved("a"),), (Value(5),)), ((Moved("b"),), (Moved("b"),)),
            ((Moved("a", 1), Value(3), Moved("b", 1), Moved("a")), (Value(6), Value(3), Moved("b", 1), Value(5))),
        ]:
            self.assertEqual(written(term, box), told)
            self.assertIs(type(written(term, box)), tuple)
            self.assertEqual(written(written(term, box), box), told)

    def test_equal_exactly_if_the_values_are(self):
        terms = [Value(each) for each in (0, 1, 2, 3, None)] + [Failure("a", "b")]
        terms += [Moved(name, shift) for name in "abc" for shift in (-1, 0, 1, 2)]
        columns = [[(0, 0), (1, 1), (0, 1), (1, 3)]] * 3
        for bounds in itertools.product(*columns):
            box = Calls(THREE, dict(zip("abc", bounds)))
            calls = all_calls(THREE, [range(low, high + 1) for low, high in bounds])
            told = [(written(term, box), [value_of(term, call) for call in calls]) for term in terms]
            for (one, values), (other, others) in itertools.product(told, told):
                self.assertIs(one == other, values == others)
            for (one, values), term in zip(told, terms):
                self.assertEqual([value_of(one, call) for call in calls], values)
                self.assertEqual(written(one, box), one)

    def test_equal_exactly_if_the_words_are(self):
        terms = [Moved("mode"), Moved("hue"), Value("a"), Value("b"), Value(None)]
        for words, others in itertools.product([["a"], ["b"], ["a", "b"], ["b", "c"]], repeat=2):
            box = Calls(TINT, {"mode": (words, True), "hue": (others, True), "size": (0, 0)})
            calls = all_calls(TINT, [words, others, [0]])
            for one, other in itertools.product(terms, terms):
                alike = [one(call) for call in calls] == [other(call) for call in calls]
                self.assertIs(written(one, box) == written(other, box), alike)


class Parting(unittest.TestCase):
    def check(self, one, other, box, some):
        """`some` is whether there is such a call."""
        told = parting(one, other, box)
        if not some:
            self.assertIsNone(told)
            return
        self.assertIsInstance(told, dict)
        self.assertEqual(sorted(told), sorted(box.hook.names))
        self.assertIn(told, box)
        self.assertTrue(parts(one, other, told), told)

    def test_values_and_failures(self):
        box = Calls(SHADE, {"size": (5, 7)})
        plain = [Value(5), Value(6), Value(None), Value("a"), Failure("a", "b"), Failure("b", "a"), Failure("a", "c")]
        for one, other in itertools.product(plain, plain):
            self.check([one], [other], box, one != other)
            self.check([one, other], [other], box, one != other)
            self.check([one], [other, one], box, False)
        self.check(plain, plain[::-1], box, False)
        self.check(plain, plain[1:], box, True)
        self.check(plain[1:], plain, box, False)

    def test_moved_and_values(self):
        box = Calls(SHADE, {"size": (5, 7)})
        for one, other, some in [
            ([Moved("size")], [Value(5), Value(6), Value(7)], False), ([Moved("size")], [Value(5), Value(7)], True),
            ([Moved("size")], [Value(6)], True), ([Moved("size")], [Moved("size", 1)], True),
            ([Moved("size")], [Moved("size", -1), Moved("size")], False),
            ([Moved("size", 2)], [Value(7), Value(8)], True),
            ([Moved("size", 2)], [Value(7), Value(8), Value(9)], False),
            ([Moved("size", -9)], [Value(-4), Value(-2)], True),
            ([Moved("size", -9)], [Value(-4), Value(-3), Value(-2)], False), ([Moved("size")], [Value(None)], True),
            ([Moved("size")], [Failure("a", "b")], True), ([Failure("a", "b")], [Moved("size")], True),
            ([Value(None)], [Moved("size")], True), ([Value(6)], [Moved("size")], True),
            ([Value(6)], [Moved("size"), Moved("size", 1), Moved("size", -1)], False),
            ([Value(6)], [Moved("size"), Moved("size", 1), Value(7)], True), ([Value(6)], [Moved("size", 5)], True),
            ([Moved("size"), Value(3)], [Value(3), Value(7), Value(6), Value(5)], False),
            ([Value(3), Moved("size")], [Value(3), Value(7), Value(5)], True),
        ]:
            self.check(one, other, box, some)
            self.check(tuple(one), tuple(other), box, some)

    def test_empty_lists(self):
        for box in [Calls(SHADE), Calls(SHADE, {"size": (4, 9)}), Calls(BARE), Calls(TINT, {"mode": (["a"], False)})]:
            for empty in ([], ()):
                self.assertIsNone(parting(empty, [Value(1)], box))
                self.assertIsNone(parting(empty, empty, box))
                self.check([Value(1)], empty, box, True)
        self.check([Moved("size", 3)], [], Calls(SHADE, {"size": (-9, -4)}), True)

    def test_by_name(self):
        self.assertEqual(parting(other=[], one=[Value(1)], calls=Calls(SHADE, {"size": (8, 8)})), {"size": 8})

    def test_no_calls(self):
        self.assertIsNone(parting([Value(1)], [], Calls(SHADE, {"size": (2, 1)})))

    def test_without_parameters(self):
        self.assertEqual(parting([Value(1)], [Value(2)], Calls(BARE)), {})
        self.assertIsNone(parting([Value(1)], [Value(2), Value(1)], Calls(BARE)))

    def test_between_many_values(self):
        for many in [10, 50, 200, 600]:
            for free in [0, 1, many // 2, many - 1]:
                box = Calls(SHADE, {"size": (-3, many - 4)})
                others = [Value(at - 3) for at in range(many) if at != free]
                self.assertEqual(parting([Moved("size")], others, box), {"size": free - 3})
                self.assertIsNone(parting([Moved("size")], others + [Value(free - 3)], box))
                shifted = [Moved("size", 3 - at) for at in range(many) if at != free]
                self.assertEqual(parting([Value(0)], shifted, box), {"size": free - 3})
        for bound in [(None, None), (4, None), (None, -4)]:
            self.check([Moved("size")], [Value(at) for at in range(-300, 300)], Calls(SHADE, {"size": bound}), True)

    def test_many_values_behind_the_first_parameter(self):
        """The first parameters have to be just right for the last one to be free."""
        box = Calls(THREE, {"a": (0, 30), "b": (0, 30), "c": (0, 30)})
        others = [Moved("a", shift) for shift in range(-30, 30)]
        self.assertEqual(parting([Moved("c")], others, box)["c"], 30)
        self.assertIsNone(parting([Moved("c")], others + [Moved("a", 30)], box))
        self.check([Moved("c")], others[:-1] + [Moved("b", shift) for shift in range(0, 29)], box, True)

    def test_words(self):
        box = Calls(TINT, {"mode": (["a", "b"], True), "hue": (["b", "c"], True), "size": (0, 1)})
        for one, other, some in [
            ([Moved("mode")], [Value("a"), Value("b")], False), ([Moved("mode")], [Value("a"), Value("c")], True),
            ([Moved("mode")], [Moved("hue")], True), ([Moved("mode")], [Moved("hue"), Value("a")], True),
            ([Value("b")], [Moved("mode"), Moved("hue")], True), ([Moved("mode")], [Moved("mode")], False),
            ([Moved("mode")], [Moved("hue"), Value("a"), Value("b")], False), ([Moved("mode")], [Value(None)], True),
        ]:
            self.check(one, other, box, some)
        free = Calls(TINT, {"mode": (["a", "b"], False)})
        self.check([Moved("mode")], [Value(word) for word in "cdefghijklmnopqrstuvwxyz"], free, True)
        self.check([Moved("mode")], [Moved("hue"), Value("c")], free, True)
        self.check([Value("c")], [Moved("mode")], free, True)

    def test_words_and_numbers_never_meet(self):
        box = Calls(TINT, {"mode": (["a", "b"], True), "size": (0, 1)})
        self.check([Moved("size", 1)], [Moved("mode"), Value("a")], box, True)
        self.check([Moved("mode")], [Moved("size"), Moved("size", 2), Value(0)], box, True)
        self.check([Value("a")], [Moved("size", 2)], box, True)

    def test_tuples(self):
        box = Calls(THREE, {"a": (0, 1), "b": (0, 1), "c": (5, 9)})
        one, two = Moved("a"), Moved("b")
        zero, single = Value(0), Value(1)
        for left, right, some in [
            ([()], [()], False), ([()], [(zero,)], True), ([(zero,)], [()], True), ([()], [], True),
            ([(zero, single)], [(single, zero)], True), ([(zero,)], [zero], True), ([zero], [(zero,)], True),
            ([(one, two)], [(two, one)], True), ([(one, two)], [(one, two)], False),
            ([(one, one)], [(zero, zero), (single, single)], False),
            ([(one, two)], [(zero, zero), (single, single)], True),
            ([(one, two)], [(zero, zero), (single, single), (zero, single), (single, zero)], False),
            ([(one, two)], [(two, one), (zero, single), (single, zero)], False),
            ([(one, two)], [(two, one), (zero, single), (zero, zero)], True),
            ([(one, two)], [(zero, two), (one, one), (single, zero)], False),
            ([(one, two)], [(zero, two), (one, one)], True), ([(one, two, zero)], [(one, two)], True),
            ([(one, two)], [(one, two, zero), (one,), ()], True),
            ([(Moved("c"),)], [(Value(k),) for k in range(5, 10)], False),
            ([(Moved("c"), one)], [(Value(k), zero) for k in range(5, 10)], True),
            ([Failure("a", "b")], [(zero,)], True), ([Failure("a", "b")], [(zero,), Failure("a", "b")], False),
            ([(zero,), Failure("a", "b")], [Failure("a", "b")], True), ([(Value(None),)], [(zero,)], True),
        ]:
            self.check(left, right, box, some)

    def test_few_calls_all_of_which_are_taken(self):
        box = Calls(THREE, {"a": (0, 2), "b": (0, 1), "c": (0, 1)})
        taken = [(Value(a), Value(b), Value(c)) for a in range(3) for b in range(2) for c in range(2)]
        item = (Moved("a"), Moved("b"), Moved("c"))
        self.check([item], taken, box, False)
        for at in range(len(taken)):
            self.assertEqual(
                parting([item], taken[:at] + taken[at + 1:], box),
                dict(zip("abc", [term.value for term in taken[at]])),
            )

    def test_what_is_passed_is_not_changed(self):
        one, other = [Moved("size"), Value(3)], [Value(5), Moved("size", 1)]
        kept = copy.deepcopy((one, other))
        told = parting(one, other, Calls(SHADE, {"size": (5, 7)}))
        self.assertEqual((one, other), kept)
        self.assertEqual(parting(one, other, Calls(SHADE, {"size": (5, 7)})), told)

    def chance_term(self, rng, box, names, values):
        return written(rng.choice([
            Value(rng.choice(values)), Moved(rng.choice(names), rng.choice([0, 0, 1, -1, 2])), Moved(rng.choice(names)),
        ]), box)

    def chance_result(self, rng, box, tuples):
        if rng.random() < 0.05:
            return Failure(rng.choice("ab"), "c")
        if tuples:
            many = rng.choice([1, 2, 2, 2, 3])
            return tuple(self.chance_term(rng, box, "abc", range(4)) for _ in range(many))
        return self.chance_term(rng, box, "abc", [*range(4), None])

    def test_numbers_by_a_look_at_all_calls(self):
        rng = random.Random("parting")
        found = {True: 0, False: 0}
        for at in range(1500):
            bounds = {name: (low, low + rng.randrange(3)) for name in "abc" for low in [rng.randrange(2)]}
            box = Calls(THREE, bounds)
            calls = all_calls(THREE, [range(bounds[name][0], bounds[name][1] + 1) for name in "abc"])
            one = [self.chance_result(rng, box, at % 3 == 0) for _ in range(rng.randrange(1, 3))]
            other = [self.chance_result(rng, box, at % 3 == 0) for _ in range(rng.randrange(14))]
            some = any(parts(one, other, call) for call in calls)
            found[some] += 1
            self.check(one, other, box, some)
        self.assertGreater(min(found.values()), 200)

    def test_numbers_of_any_size(self):
        """Where a parameter has more values than there are results, a grid that is wide enough tells the same."""
        rng = random.Random("parting wide")
        found = {True: 0, False: 0}
        for at in range(150):
            bounds = {"a": rng.choice([(None, None), (0, None), (None, 3)]), "b": (0, rng.randrange(2)), "c": (1, 1)}
            box = Calls(THREE, bounds)
            calls = [call for call in all_calls(THREE, [range(-20, 21), range(2), [1]]) if call in box]
            one = [self.chance_result(rng, box, at % 3 == 0) for _ in range(2)]
            other = [self.chance_result(rng, box, at % 3 == 0) for _ in range(rng.randrange(9))]
            other += one[:rng.randrange(2)]
            some = any(parts(one, other, call) for call in calls)
            found[some] += 1
            self.check(one, other, box, some)
        self.assertGreater(min(found.values()), 10)

    def test_words_by_a_look_at_all_calls(self):
        rng = random.Random("parting words")
        found = {True: 0, False: 0}
        for _ in range(600):
            words = {name: sorted(rng.sample("pqr", rng.randrange(1, 4))) for name in ("mode", "hue")}
            box = Calls(TINT, {"mode": (words["mode"], True), "hue": (words["hue"], True)})
            calls = all_calls(TINT, [words["mode"], words["hue"], [0]])
            terms = [written(each, box) for each in map(Value, [*"pqr", None])]
            terms += [written(Moved("mode"), box), written(Moved("hue"), box)]
            one = [rng.choice(terms) for _ in range(rng.randrange(1, 3))]
            other = [rng.choice(terms) for _ in range(rng.randrange(5))]
            some = any(parts(one, other, call) for call in calls)
            found[some] += 1
            self.check(one, other, box, some)
        self.assertGreater(min(found.values()), 100)


class Examples(unittest.TestCase):
    def test_examples(self):
        box = Calls(SHADE, {"size": (5, 7)})
        self.assertEqual(parting([Moved("size")], [Value(5), Value(6)], box), {"size": 7})
        self.assertEqual(parting([Value(7)], [Moved("size", 1), Moved("size", 2)], box), {"size": 7})


if __name__ == "__main__":
    unittest.main()
