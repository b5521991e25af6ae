"""Hooks: points [1], [2], [6], [7], [8]."""

import copy
import itertools
import unittest

from hookrow.errors import BadCall, InvalidHook
from hookrow.hooks import Hook

KEPT = "if then else not both and either or is none fail ask with giving failing inner unanswered".split()
NO_NAMES = [
    "", "A", "aB", "a1", "a_b", "a b", " a", "a ", "a\n", "abcdefghi", "\xe4", "\u0430", "-", "'a", 0, 1, -5, None,
    True, False, (), ("a",), [], ["a"], {}, {"a": 1}, {"a"}, 1.5, b"a", object(), Hook, 10 ** 30,
]
NO_NUMBERS = [True, False, None, "a", "1", "", (), (1,), [], [1], {}, 1.0, 2.5, b"1", object(), Hook]


def trim():
    return Hook(
        "trim", "through", [("text", "word"), ("size", "number", 3)], only=[("mode", "word", "hard")], gives="word",
    )


class MadeHooks(unittest.TestCase):
    def test_attributes(self):
        hook = trim()
        self.assertEqual(hook.name, "trim")
        self.assertEqual(hook.kind, "through")
        self.assertEqual(hook.gives, "word")
        self.assertEqual(hook.params, (("text", "word", None), ("size", "number", 3)))
        self.assertEqual(hook.only, (("mode", "word", "hard"),))
        self.assertEqual(hook.names, ("text", "size", "mode"))

    def test_defaults_of_the_constructor(self):
        hook = Hook("f", "first", [])
        self.assertEqual((hook.name, hook.kind, hook.gives), ("f", "first", "number"))
        self.assertEqual((hook.params, hook.only, hook.names), ((), (), ()))

    def test_all_kinds_and_ways_of_telling_parameters(self):
        told = [("size", "number"), ("mode", "word", "red"), ("n", "number", 0)]
        triples = (("size", "number", None), ("mode", "word", "red"), ("n", "number", 0))
        ways = itertools.product(["first", "through", "each"], range(4), range(4), [list, tuple])
        for kind, many, split, form in ways:
            if split > many or kind == "through" and split == 0:
                continue
            hook = Hook("f", kind, form(told[:split]), only=form(told[split:many]))
            self.assertIs(type(hook.params), tuple)
            self.assertIs(type(hook.only), tuple)
            self.assertIs(type(hook.names), tuple)
            self.assertEqual(hook.params, triples[:split])
            self.assertEqual(hook.only, triples[split:many])
            self.assertEqual(hook.names, ("size", "mode", "n")[:many])
            self.assertEqual((hook.kind, hook.gives), (kind, "number"))

    def test_default_none_is_no_default(self):
        hook = Hook("f", "through", [("a", "number", None), ("b", "word", None)], only=[("c", "word", None)])
        self.assertEqual(hook.params, (("a", "number", None), ("b", "word", None)))
        self.assertEqual(hook, Hook("f", "through", [("a", "number"), ("b", "word")], only=[("c", "word")]))

    def test_by_name(self):
        hook = Hook(gives="word", only=[("b", "word")], params=[("a", "number")], kind="each", name="f")
        self.assertEqual(str(hook), "each f(a: number, *, b: word) -> word")

    def test_behind_the_star_by_name_only(self):
        with self.assertRaises(TypeError):
            Hook("f", "first", [], [("a", "word")])

    def test_later_changes_of_lists_have_no_effect(self):
        params, only = [("a", "number")], [("b", "word")]
        hook = Hook("f", "first", params, only=only)
        params.append(("c", "word"))
        params[0] = ("d", "word")
        del only[0]
        self.assertEqual(hook.params, (("a", "number", None),))
        self.assertEqual(hook.only, (("b", "word", None),))
        self.assertEqual(hook.names, ("a", "b"))

    def test_arguments_are_not_changed(self):
        params, only = [("a", "number")], [("b", "word", "x")]
        Hook("f", "first", params, only=only)
        self.assertEqual((params, only), ([("a", "number")], [("b", "word", "x")]))

    def test_names_at_the_edges(self):
        for name in ("a", "z", "abcdefgh", "zzzzzzzz"):
            self.assertEqual(Hook(name, "first", [(name, "word", name)]).names, (name,))

    def test_kept_words_may_be_names_of_hooks_and_words(self):
        for word in KEPT:
            if len(word) <= 8:
                hook = Hook(word, "first", [("a", "word", word)])
                self.assertEqual((hook.name, hook.params[0][2]), (word, word))

    def test_defaults_at_the_edges(self):
        for default in (0, 1, -1, 10 ** 30, -(10 ** 30)):
            self.assertEqual(Hook("f", "first", [("a", "number", default)]).params[0][2], default)

    def test_by_name_only_without_default_behind_one_with_default(self):
        hook = Hook("f", "first", [("a", "number", 1)], only=[("b", "number", 2), ("c", "word")])
        self.assertEqual(hook.only, (("b", "number", 2), ("c", "word", None)))


class RefusedHooks(unittest.TestCase):
    def refuse(self, word, name, *args, **named):
        with self.assertRaises(InvalidHook) as caught:
            Hook(*args, **named)
        self.assertEqual(caught.exception.word, word)
        if isinstance(name, (str, int, type(None), tuple)):
            self.assertEqual(caught.exception.name, name)
            self.assertIs(type(caught.exception.name), type(name))
        else:
            self.assertIs(caught.exception.name, name)

    def test_name(self):
        for name in NO_NAMES:
            self.refuse("name", name, name, "first", [])

    def test_kind(self):
        for kind in ("", "First", "last", "firsts", "eac", "number", "first "):
            self.refuse("kind", "f", "f", kind, [])

    def test_param(self):
        for name in [*NO_NAMES, *KEPT]:
            self.refuse("param", name, "f", "first", [(name, "number")])
            self.refuse("param", name, "f", "first", [("a", "word"), (name, "number", 3)])
            self.refuse("param", name, "f", "first", [("a", "word")], only=[("b", "word"), (name, "number")])

    def test_twice(self):
        self.refuse("twice", "a", "f", "first", [("a", "word"), ("a", "word")])
        self.refuse("twice", "a", "f", "first", [("a", "word"), ("b", "word"), ("a", "number", 1)])
        self.refuse("twice", "a", "f", "first", [("a", "word")], only=[("a", "number")])
        self.refuse("twice", "b", "f", "first", [("a", "word")], only=[("b", "number"), ("b", "word")])

    def test_sort(self):
        for sort in ("", "Number", "words", "none", "first"):
            self.refuse("sort", "a", "f", "first", [("a", sort)])
            self.refuse("sort", "b", "f", "first", [("a", "word")], only=[("b", sort, 1)])

    def test_default(self):
        for default in NO_NUMBERS:
            if default is not None:
                self.refuse("default", "a", "f", "first", [("a", "number", default)])
                self.refuse("default", "b", "f", "first", [("a", "word")], only=[("b", "number", default)])
        for default in NO_NAMES:
            if default is not None:
                self.refuse("default", "a", "f", "first", [("a", "word", default)])
                self.refuse("default", "b", "f", "first", [("a", "word")], only=[("b", "word", default)])

    def test_default_missing_behind_one(self):
        self.refuse("default", "b", "f", "first", [("a", "number", 0), ("b", "word")])
        self.refuse("default", "b", "f", "first", [("a", "number", 0), ("b", "word", None)])
        self.refuse("default", "c", "f", "first", [("a", "word"), ("b", "number", 0), ("c", "number")])
        self.refuse("default", "b", "f", "through", [("a", "number", 0), ("b", "number"), ("c", "number", 1)])

    def test_many(self):
        four = [(name, "number") for name in "abcd"]
        for split in range(5):
            self.refuse("many", "f", "f", "first", four[:split], only=four[split:])
        self.refuse("many", "f", "f", "each", four + [("e", "word", "x")])

    def test_through(self):
        self.refuse("through", "f", "f", "through", [])
        self.refuse("through", "f", "f", "through", (), only=[("a", "number")])
        self.refuse("through", "f", "f", "through", [("a", "number", 0)])
        self.refuse("through", "f", "f", "through", [("a", "word", "x"), ("b", "number", 1)], gives="word")

    def test_gives(self):
        for gives in ("", "Number", "words", "none", "first", None, True, 1, (), ["number"]):
            for kind in ("first", "through", "each"):
                self.refuse("gives", "f", "f", kind, [("a", "number")], gives=gives)
        self.refuse("gives", "f", "f", "through", [("a", "word")])
        self.refuse("gives", "f", "f", "through", [("a", "word"), ("b", "number")], gives="number")
        self.refuse("gives", "f", "f", "through", [("a", "number"), ("b", "word")], gives="word")

    def test_gives_of_other_kinds_is_free(self):
        for kind in ("first", "each"):
            self.assertEqual(Hook("f", kind, [("a", "word")], gives="number").gives, "number")
            self.assertEqual(Hook("f", kind, [("a", "number")], gives="word").gives, "word")
            self.assertEqual(Hook("f", kind, [("a", "number", 1)]).params, (("a", "number", 1),))

    def test_two_violations_the_first_one_is_told(self):
        four = [(name, "number") for name in "abcd"]
        self.refuse("name", "F", "F", "last", [("if", "sorts")], gives="no")
        self.refuse("kind", "f", "f", "last", [("if", "sorts")], gives="no")
        self.refuse("param", "if", "f", "through", [("if", "sorts", True)], gives="no")
        self.refuse("param", "if", "f", "first", [("a", "word"), ("if", "word"), ("if", "word")])
        self.refuse("twice", "a", "f", "first", [("a", "word"), ("a", "sorts", True)])
        self.refuse("sort", "a", "f", "first", [("a", "sorts", True)])
        self.refuse("sort", "b", "f", "first", [("a", "word", "x"), ("b", "sorts")])
        self.refuse("default", "a", "f", "first", [("a", "word", 1), ("if", "sorts")])
        self.refuse("param", "if", "f", "first", four + [("if", "number")])
        self.refuse("default", "d", "f", "first", four[:3] + [("d", "number", "x")])
        self.refuse("twice", "a", "f", "first", four[:3] + [("a", "number")])
        self.refuse("many", "f", "f", "through", [], only=four, gives="no")
        self.refuse("many", "f", "f", "through", [("e", "word", "x")], only=four[:3])
        self.refuse("through", "f", "f", "through", [], gives="no")
        self.refuse("through", "f", "f", "through", [("a", "word", "x")], gives="number")

    def test_positional_ones_come_ahead_of_those_by_name(self):
        self.refuse("default", "b", "f", "first", [("a", "word"), ("b", "word", 1)], only=[("if", "word")])


class BoundCalls(unittest.TestCase):
    def refuse(self, hook, args, named, word, name):
        with self.assertRaises(BadCall) as caught:
            hook.bind(args, named)
        self.assertEqual((caught.exception.word, caught.exception.name), (word, name))

    def test_all_ways_of_passing_one_call(self):
        hook = trim()
        call = {"text": "red", "size": 5, "mode": "soft"}
        for form in (list, tuple):
            self.assertEqual(hook.bind(form(["red", 5]), {"mode": "soft"}), call)
            self.assertEqual(hook.bind(form(["red"]), {"mode": "soft", "size": 5}), call)
            self.assertEqual(hook.bind(form([]), {"mode": "soft", "size": 5, "text": "red"}), call)

    def test_defaults(self):
        hook = trim()
        self.assertEqual(hook.bind(["red"], {}), {"text": "red", "size": 3, "mode": "hard"})
        self.assertEqual(hook.bind([], {"text": "a"}), {"text": "a", "size": 3, "mode": "hard"})
        self.assertEqual(hook.bind(["red", 0], {}), {"text": "red", "size": 0, "mode": "hard"})
        zero = Hook("f", "first", [("a", "number", 0)])
        self.assertEqual(zero.bind([], {}), {"a": 0})

    def test_without_parameters(self):
        hook = Hook("f", "first", [])
        self.assertEqual(hook.bind([], {}), {})
        self.refuse(hook, [1], {}, "many", None)
        self.refuse(hook, [], {"a": 1}, "unknown", "a")

    def test_kept_words_are_words(self):
        self.assertEqual(trim().bind(["none"], {"mode": "if"}), {"text": "none", "size": 3, "mode": "if"})

    def test_by_name(self):
        self.assertEqual(trim().bind(named={}, args=["a"]), trim().bind(["a"], {}))

    def test_big_numbers(self):
        for number in (10 ** 6, -(10 ** 6), 10 ** 40):
            self.assertEqual(trim().bind(["a", number], {})["size"], number)

    def test_many(self):
        self.refuse(trim(), ["a", 1, "b"], {}, "many", None)
        self.refuse(trim(), ("a", 1, "b", 2), {}, "many", None)
        only = Hook("f", "first", [], only=[("a", "word")])
        self.refuse(only, ["a"], {}, "many", None)

    def test_unknown(self):
        self.refuse(trim(), ["a"], {"sizes": 1}, "unknown", "sizes")
        self.refuse(trim(), ["a"], {"zz": 1, "size": 4, "b": 1, "ba": 3}, "unknown", "b")
        self.refuse(trim(), ["a"], {"Z": 1, "a": 1, "": 5}, "unknown", "")
        self.refuse(trim(), ["a"], {"a": 1, "Z": 1}, "unknown", "Z")
        self.refuse(trim(), ["a"], {"trim": 1}, "unknown", "trim")

    def test_twice(self):
        self.refuse(trim(), ["a"], {"text": "a"}, "twice", "text")
        self.refuse(trim(), ["a", 1], {"size": 1}, "twice", "size")
        self.refuse(trim(), ["a", 1], {"size": 1, "text": "a"}, "twice", "text")

    def test_missing(self):
        self.refuse(trim(), [], {}, "missing", "text")
        self.refuse(trim(), [], {"size": 1, "mode": "a"}, "missing", "text")
        hook = Hook("f", "each", [("b", "number")], only=[("a", "number"), ("c", "word")])
        self.refuse(hook, [], {}, "missing", "b")
        self.refuse(hook, [0], {}, "missing", "a")
        self.refuse(hook, [0], {"a": 0}, "missing", "c")

    def test_sort(self):
        hook = Hook("f", "each", [("a", "number"), ("b", "word")], only=[("c", "number", 0)])
        for thing in NO_NUMBERS:
            self.refuse(hook, [thing, "x"], {}, "sort", "a")
            self.refuse(hook, [1], {"b": "x", "c": thing}, "sort", "c")
        for thing in NO_NAMES:
            self.refuse(hook, [1, thing], {}, "sort", "b")
            self.refuse(hook, [], {"b": thing, "a": 1}, "sort", "b")

    def test_none_is_passed_and_takes_no_default(self):
        self.refuse(trim(), [None], {}, "sort", "text")
        self.refuse(trim(), ["a", None], {}, "sort", "size")
        self.refuse(trim(), ["a"], {"mode": None}, "sort", "mode")

    def test_two_violations_the_first_one_is_told(self):
        self.refuse(trim(), [1, 2, 3], {"zz": 1, "text": 1}, "many", None)
        self.refuse(trim(), [1], {"zz": 1, "text": 1}, "unknown", "zz")
        hook = Hook("f", "each", [("a", "number"), ("b", "word")], only=[("c", "number")])
        self.refuse(hook, ["x"], {"a": "x"}, "twice", "a")
        self.refuse(hook, ["x", 1], {"b": 1}, "twice", "b")
        self.refuse(hook, ["x"], {}, "missing", "b")
        self.refuse(hook, ["x", 1], {}, "missing", "c")
        self.refuse(hook, ["x", 1], {"c": True}, "sort", "a")
        self.refuse(hook, [4, 1], {"c": True}, "sort", "b")

    def test_nothing_that_is_passed_is_changed(self):
        hook = trim()
        args, named = ["red"], {"mode": "soft"}
        call = hook.bind(args, named)
        self.assertEqual((args, named), (["red"], {"mode": "soft"}))
        self.assertIsNot(call, named)
        call["size"] = 9
        call["mode"] = "x"
        named["mode"] = "y"
        self.assertEqual(hook.bind(["red"], {"mode": "soft"}), {"text": "red", "size": 3, "mode": "soft"})
        self.assertEqual(hook, trim())
        for args, named in ([], {"zz": 1}), (["a"], {"text": "b"}), ([], {}), ([3], {"mode": 4}):
            before = copy.deepcopy((args, named))
            with self.assertRaises(BadCall):
                hook.bind(args, named)
            self.assertEqual((args, named), before)

    def test_all_names_by_name_give_a_new_dict(self):
        named = {"text": "red", "size": 5, "mode": "soft"}
        call = trim().bind([], named)
        self.assertEqual(call, named)
        self.assertIsNot(call, named)


class ShownAndComparedHooks(unittest.TestCase):
    def test_example_of_the_document(self):
        self.assertEqual(str(trim()), "through trim(text: word, size: number = 3, *, mode: word = 'hard) -> word")
        self.assertEqual(trim().bind(["red"], {"mode": "soft"}), {"text": "red", "size": 3, "mode": "soft"})

    def test_texts(self):
        self.assertEqual(str(Hook("f", "first", [])), "first f() -> number")
        self.assertEqual(str(Hook("f", "each", [], gives="word")), "each f() -> word")
        self.assertEqual(str(Hook("f", "each", [("a", "word")])), "each f(a: word) -> number")
        self.assertEqual(str(Hook("f", "each", [], only=[("a", "word")])), "each f(*, a: word) -> number")
        hook = Hook("f", "first", [("a", "number", 0), ("b", "number", -12)], only=[("c", "word")])
        self.assertEqual(str(hook), "first f(a: number = 0, b: number = -12, *, c: word) -> number")
        hook = Hook("f", "first", [], only=[("a", "number", 4), ("b", "word", "none"), ("c", "word")])
        self.assertEqual(str(hook), "first f(*, a: number = 4, b: word = 'none, c: word) -> number")

    def test_equality(self):
        self.assertTrue(trim() == trim())
        self.assertFalse(trim() != trim())
        base = Hook("f", "first", [("a", "number")], only=[("b", "word")])
        self.assertEqual(base, Hook("f", "first", (("a", "number", None),), only=(("b", "word", None),)))
        others = [
            Hook("g", "first", [("a", "number")], only=[("b", "word")]),
            Hook("f", "each", [("a", "number")], only=[("b", "word")]),
            Hook("f", "first", [("c", "number")], only=[("b", "word")]),
            Hook("f", "first", [("a", "word")], only=[("b", "word")]),
            Hook("f", "first", [("a", "number", 1)], only=[("b", "word")]),
            Hook("f", "first", [("a", "number")], only=[("b", "word", "x")]),
            Hook("f", "first", [("a", "number"), ("b", "word")]),
            Hook("f", "first", [], only=[("a", "number"), ("b", "word")]),
            Hook("f", "first", [("a", "number")], only=[("b", "word")], gives="word"),
            Hook("f", "first", [("a", "number")]),
        ]
        for other in others:
            self.assertFalse(base == other, str(other))
            self.assertTrue(base != other, str(other))

    def test_equal_to_nothing_of_another_class(self):
        for thing in (None, 0, "f", str(trim()), (), [], {}, object(), Hook, True, trim().params):
            self.assertFalse(trim() == thing)
            self.assertFalse(thing == trim())
            self.assertTrue(trim() != thing)


if __name__ == "__main__":
    unittest.main()
