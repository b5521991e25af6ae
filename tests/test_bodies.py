"""Bodies: points [9] to [12]."""

import random
import unittest

from bodymaker import Maker, inside, places, planted
from hookrow.bodies import check_body, children, count
from hookrow.errors import InvalidBody
from hookrow.hooks import Hook

SHADE = Hook("shade", "first", [("size", "number")])
TRIM = Hook("trim", "through", [("text", "word"), ("size", "number", 3)], only=[("mode", "word", "hard")], gives="word")
BOTH = Hook("both", "each", [("n", "number"), ("w", "word")], only=[("m", "number")])
HOOKS = [SHADE, TRIM, BOTH]

NO_TREES = [
    0, 1, -3, True, False, None, "", "none", "number", "('none',)", (), [], ["none"], ["number", 1], {}, {"none": 1},
    {"none"}, (("none",),), ((),), (["none"],), (["number"], 1), (None,), (0,), (True,), (1, "none"), object(), 1.5,
    b"none", (b"none",), ("None",), ("NONE",), ("",), (" none",), ("value", 1), ("inner",), ("then",), Hook, SHADE,
]
NO_INTEGERS = [True, False, None, "1", "a", "", 1.0, (), (1,), [1], {}, object(), b"1"]
NO_NAMES = ["", "A", "abcdefghi", "a b", "'a", "a1", "a\n", "\xe4", 1, 0, True, None, (), ("a",), ["a"], {}, b"a"]
NO_PARAMS = [
    "sizes", "", "Size", "abcdefghi", "if", "none", "inner", 0, True, None, (), ("size",), ["size"], {"size": 1}, 1.5,
    object(), b"size",
]


def fault(hook, body, wraps=False):
    """The word and the path for a body, or True if it is right."""
    try:
        return check_body(hook, body, wraps=wraps)
    except InvalidBody as error:
        return error.word, error.path


class Checked(unittest.TestCase):
    def right(self, hook, body, wraps=False):
        self.assertIs(fault(hook, body, wraps), True, body)

    def wrong(self, word, path, hook, body, wraps=False):
        self.assertEqual(fault(hook, body, wraps), (word, path), body)

    def test_examples_of_the_document(self):
        body = ("ask", (("size", ("plus", "size", 1)),), ("plus", "inner", 2), None)
        self.right(SHADE, body, wraps=True)
        self.wrong("sort", (1,), SHADE, ("if", ("is", "size", "red"), ("number", 1), ("none",)))

    def test_arguments_by_name(self):
        self.assertIs(check_body(wraps=True, body=("none",), hook=SHADE), True)
        with self.assertRaises(TypeError):
            check_body(SHADE, ("none",), True)

    def test_right_expressions(self):
        for wraps in (False, True):
            for k in (0, 1, -1, 1000, 10 ** 30):
                self.right(SHADE, ("number", k), wraps)
                self.right(SHADE, ("plus", "size", k), wraps)
            for w in ("a", "abcdefgh", "none", "if"):
                self.right(TRIM, ("word", w), wraps)
                self.right(TRIM, ("fail", w), wraps)
                self.right(SHADE, ("fail", w), wraps)
            for hook in HOOKS:
                self.right(hook, ("none",), wraps)
            self.right(SHADE, ("param", "size"), wraps)
            self.right(TRIM, ("param", "text"), wraps)
            self.right(TRIM, ("param", "mode"), wraps)
            self.right(BOTH, ("plus", "m", 1), wraps)

    def test_right_tests(self):
        one, other = ("most", "n", -4), ("is", "w", "red")
        for test in (one, other, ("not", one), ("both", one, other), ("either", other, one), ("not", ("not", other))):
            for wraps in (False, True):
                self.right(BOTH, ("if", test, ("number", 1), ("none",)), wraps)

    def test_things_that_are_no_trees(self):
        for thing in NO_TREES:
            for wraps in (False, True):
                self.wrong("form", (), SHADE, thing, wraps)
                self.wrong("form", (1,), SHADE, ("if", thing, ("none",), ("none",)), wraps)
                self.wrong("form", (2,), SHADE, ("if", ("most", "size", 1), thing, ("none",)), wraps)
                self.wrong("form", (3,), SHADE, ("if", ("most", "size", 1), ("none",), thing), wraps)
            for at, test in ((1, ("not", thing)), (1, ("both", thing, 5)), (2, ("either", ("most", "size", 1), thing))):
                self.wrong("form", (1, at), SHADE, ("if", test, ("none",), ("none",)))
            self.wrong("form", (2,), SHADE, ("ask", (), thing, None), True)
            self.wrong("form", (1, 0, 1), SHADE, ("ask", (("size", thing),), ("none",), None), True)
            if thing is not None:
                self.wrong("form", (3,), SHADE, ("ask", (), ("none",), thing), True)

    def test_other_lengths(self):
        trees = [
            ("number",), ("number", 1, 2), ("word",), ("word", "a", "b"), ("none", None), ("none", "a"), ("param",),
            ("param", "size", 0), ("plus", "size"), ("plus", "size", 1, 2), ("plus",), ("fail",), ("fail", "a", "b"),
            ("if",), ("if", ("most", "size", 1), ("none",)), ("if", ("most", "size", 1), ("none",), ("none",), 1),
        ]
        for tree in trees:
            self.wrong("form", (), SHADE, tree)
            self.wrong("form", (), SHADE, tree, True)
        test = ("most", "size", 1)
        for tree in [
            ("most",), ("most", "size"), ("most", "size", 1, 1), ("is",), ("is", "size"), ("is", "size", "a", "a"),
            ("not",), ("not", test, test), ("both", test), ("both", test, test, test), ("either", test),
            ("either", test, test, test), ("lacks", 1),
        ]:
            self.wrong("form", (1,), SHADE, ("if", tree, ("none",), ("none",)))
            self.wrong("form", (2, 1), SHADE, ("ask", (), ("if", tree, ("none",), ("none",)), None), True)
        for tree in [("ask",), ("ask", ()), ("ask", (), ("none",)), ("ask", (), ("none",), None, None)]:
            self.wrong("form", (), SHADE, tree, True)

    def test_integers_and_words(self):
        for thing in NO_INTEGERS:
            self.wrong("form", (), SHADE, ("number", thing))
            self.wrong("form", (), TRIM, ("number", thing))
            self.wrong("form", (), SHADE, ("plus", "size", thing))
            self.wrong("form", (), SHADE, ("plus", "nosuch", thing))
            self.wrong("form", (1,), SHADE, ("if", ("most", "size", thing), ("none",), ("none",)))
            self.wrong("form", (1,), SHADE, ("if", ("most", "nosuch", thing), ("none",), ("none",)))
        for thing in NO_NAMES:
            self.wrong("form", (), TRIM, ("word", thing))
            self.wrong("form", (), SHADE, ("word", thing))
            self.wrong("form", (), TRIM, ("fail", thing))
            self.wrong("form", (1,), TRIM, ("if", ("is", "text", thing), ("none",), ("none",)))
            self.wrong("form", (1,), TRIM, ("if", ("is", "nosuch", thing), ("none",), ("none",)))

    def test_tests_and_expressions_in_the_place_of_the_other(self):
        for tree in [("most", "size", 1), ("is", "size", "a"), ("not", ("none",)), ("both", 1, 2), ("either", 1, 2)]:
            for wraps in (False, True):
                self.wrong("form", (), SHADE, tree, wraps)
                self.wrong("form", (3,), SHADE, ("if", ("most", "size", 1), ("none",), tree), wraps)
            self.wrong("form", (1, 0, 1), SHADE, ("ask", (("size", tree),), ("none",), None), True)
            self.wrong("form", (2,), SHADE, ("ask", (), tree, None), True)
            self.wrong("form", (3,), SHADE, ("ask", (), ("none",), tree), True)
        for tree in [
            ("number", 1), ("word", "a"), ("none",), ("param", "size"), ("plus", "size", 1), ("fail", "a"),
            ("if", ("most", "size", 1), ("none",), ("none",)), ("ask", (), ("none",), None),
        ]:
            for wraps in (False, True):
                self.wrong("form", (1,), SHADE, ("if", tree, ("none",), ("none",)), wraps)
                self.wrong("form", (1, 1), SHADE, ("if", ("not", tree), ("none",), ("none",)), wraps)
            self.wrong("form", (2, 1), SHADE, ("ask", (), ("if", tree, ("none",), ("none",)), None), True)

    def test_params(self):
        for thing in NO_PARAMS:
            self.wrong("param", (), SHADE, ("param", thing))
            self.wrong("param", (), SHADE, ("plus", thing, 1))
            self.wrong("param", (1,), SHADE, ("if", ("most", thing, 1), ("none",), ("none",)))
            self.wrong("param", (1,), SHADE, ("if", ("is", thing, "a"), ("none",), ("none",)))
            self.wrong("param", (), SHADE, ("param", thing), True)
            self.wrong("param", (), SHADE, ("ask", ((thing, ("number", 1)),), ("none",), None), True)
            self.wrong("param", (1, 0, 1), SHADE, ("ask", (("size", ("param", thing)),), ("none",), None), True)
            self.wrong("param", (3,), SHADE, ("ask", (), ("none",), ("plus", thing, 1)), True)
            if thing != "inner":
                self.wrong("param", (2,), SHADE, ("ask", (), ("plus", thing, 1), None), True)

    def test_sorts(self):
        self.wrong("sort", (), SHADE, ("word", "a"))
        self.wrong("sort", (), TRIM, ("number", 1))
        self.wrong("sort", (), TRIM, ("param", "size"))
        self.wrong("sort", (), BOTH, ("param", "w"))
        self.wrong("sort", (), BOTH, ("plus", "w", 1))
        self.wrong("sort", (), TRIM, ("plus", "size", 1))
        self.wrong("sort", (), TRIM, ("plus", "text", 1))
        for wraps in (False, True):
            self.wrong("sort", (1,), BOTH, ("if", ("most", "w", 1), ("none",), ("none",)), wraps)
            self.wrong("sort", (1,), BOTH, ("if", ("is", "n", "a"), ("none",), ("none",)), wraps)
            self.wrong("sort", (2,), BOTH, ("if", ("most", "n", 1), ("word", "a"), ("word", "b")), wraps)
            self.wrong("sort", (3,), BOTH, ("if", ("most", "n", 1), ("number", 1), ("word", "b")), wraps)
            self.wrong("sort", (3, 2), TRIM, (
                "if", ("is", "text", "a"), ("none",),
                ("if", ("is", "text", "b"), ("number", 1), ("word", "b")),
            ), wraps)

    def test_sorts_of_sends(self):
        def body(*sends):
            return ("ask", sends, ("none",), None)

        right = body(("n", ("number", 1)), ("w", ("word", "a")), ("m", ("plus", "n", 1)))
        self.right(BOTH, right, True)
        self.right(BOTH, body(("w", ("param", "w")), ("m", ("param", "n"))), True)
        self.right(TRIM, body(("size", ("plus", "size", 1))), True)
        self.wrong("sort", (1, 0, 1), BOTH, body(("n", ("word", "a"))), True)
        self.wrong("sort", (1, 0, 1), BOTH, body(("w", ("number", 1))), True)
        self.wrong("sort", (1, 1, 1), BOTH, body(("w", ("param", "w")), ("n", ("param", "w"))), True)
        self.wrong("sort", (1, 0, 1), BOTH, body(("w", ("plus", "n", 1))), True)
        self.wrong("sort", (1, 0, 1, 3), BOTH, body(
            ("n", ("if", ("is", "w", "a"), ("number", 1), ("word", "a"))),
        ), True)

    def test_where_ask_may_stand(self):
        test = ("most", "size", 1)
        ask = ("ask", (), ("param", "inner"), None)
        self.right(SHADE, ask, True)
        self.right(SHADE, ("if", test, ask, ask), True)
        self.right(SHADE, ("if", test, ("number", 1), ("if", test, ask, ("none",))), True)
        self.wrong("form", (), SHADE, ask)
        self.wrong("form", (2,), SHADE, ("if", test, ask, ask))
        self.wrong("form", (2,), SHADE, ("ask", (), ask, None), True)
        self.wrong("form", (3,), SHADE, ("ask", (), ("none",), ask), True)
        self.wrong("form", (2, 3), SHADE, ("ask", (), ("if", test, ("none",), ask), None), True)
        self.wrong("form", (3, 2), SHADE, ("ask", (), ("none",), ("if", test, ask, ("none",))), True)
        self.wrong("form", (1, 0, 1), SHADE, ("ask", (("size", ask),), ("none",), None), True)
        self.wrong("form", (1, 0, 1, 2), SHADE, (
            "ask", (("size", ("if", test, ask, ("number", 1))),), ("none",), None,
        ), True)

    def test_forms_of_sends(self):
        pair = ("size", ("number", 1))
        for sends in [
            None, 0, True, "", "ab", [], [pair], pair, {}, {"size": ("number", 1)}, (list(pair),), (pair, list(pair)),
            ("size",), (("size",),), ((),), (pair, ()), (("size", ("number", 1), 1),), ("ab",), (None,), (pair, 5),
            ({"a": 1, "b": 2},),
        ]:
            self.wrong("form", (), SHADE, ("ask", sends, ("none",), None), True)
            self.wrong("form", (2,), SHADE, (
                "if", ("most", "size", 1), ("ask", sends, 7, 7), ("ask", (), ("none",), None),
            ), True)
        self.right(SHADE, ("ask", (), ("none",), None), True)
        self.right(SHADE, ("ask", (pair,), ("none",), None), True)

    def test_names_of_sends(self):
        def body(*names):
            return ("ask", tuple((name, ("number", 1)) for name in names), ("none",), None)

        self.right(BOTH, body("n", "m"), True)
        self.right(BOTH, body("m", "n"), True)
        self.wrong("twice", (), BOTH, body("n", "n"), True)
        self.wrong("twice", (), BOTH, body("n", "m", "n"), True)
        self.wrong("param", (), BOTH, body("n", "n", "nosuch"), True)
        self.wrong("param", (), BOTH, body("nosuch", "nosuch"), True)
        self.wrong("param", (), BOTH, body("n", "inner"), True)
        self.wrong("param", (), BOTH, body(["n"], ["n"]), True)
        self.wrong("param", (), BOTH, body(0, 0), True)
        self.wrong("twice", (), BOTH, ("ask", (("n", 1), ("n", 2)), 5, 5), True)
        self.wrong("param", (3,), SHADE, (
            "if", ("most", "size", 1), ("none",), ("ask", (("sizes", ("number", 1)),), ("none",), None),
        ), True)

    def test_none_and_fail_inside_sends(self):
        test = ("most", "size", 1)
        for tree in (("none",), ("fail", "a")):
            self.wrong("form", (1, 0, 1), SHADE, ("ask", (("size", tree),), ("none",), None), True)
            for at in (2, 3):
                branches = [("number", 1), ("number", 1)]
                branches[at - 2] = tree
                self.wrong("form", (1, 0, 1, at), SHADE, (
                    "ask", (("size", ("if", test, *branches)),), ("none",), None,
                ), True)
            self.wrong("form", (1, 0, 1, 3, 2), SHADE, (
                "ask", (("size", ("if", test, ("number", 1), ("if", test, tree, ("number", 1)))),), tree, tree,
            ), True)
            self.right(SHADE, ("ask", (), tree, tree), True)

    def test_where_inner_and_lacks_may_stand(self):
        test = ("most", "size", 1)
        for tree in [("param", "inner"), ("plus", "inner", 1)]:
            self.right(SHADE, ("ask", (), tree, None), True)
            self.right(SHADE, ("ask", (), ("if", test, ("none",), ("if", test, tree, tree)), None), True)
            self.wrong("param", (), SHADE, tree, True)
            self.wrong("param", (), SHADE, tree)
            self.wrong("param", (2,), SHADE, ("if", test, tree, ("ask", (), ("none",), None)), True)
            self.wrong("param", (3,), SHADE, ("ask", (), ("none",), tree), True)
            self.wrong("param", (3, 2), SHADE, ("ask", (), ("none",), ("if", test, tree, tree)), True)
            self.wrong("param", (1, 0, 1), SHADE, ("ask", (("size", tree),), ("none",), None), True)
        for tree, word in [(("lacks",), "form"), (("most", "inner", 1), "param"), (("not", ("lacks",)), "form")]:
            def asked(test):
                return ("if", test, ("none",), ("none",))

            deeper = (1,) if tree[0] == "not" else ()
            self.right(SHADE, ("ask", (), asked(tree), None), True)
            self.right(SHADE, ("ask", (), asked(("both", ("not", tree), ("either", tree, tree))), None), True)
            self.wrong(word, (1,) + deeper, SHADE, asked(tree), True)
            self.wrong(word, (1,) + deeper, SHADE, asked(tree))
            self.wrong(word, (3, 1) + deeper, SHADE, ("ask", (), ("none",), asked(tree)), True)
            self.wrong(word, (1, 0, 1, 1) + deeper, SHADE, (
                "ask", (("size", ("if", tree, ("number", 1), ("number", 2))),), ("none",), None,
            ), True)
        self.wrong("form", (), SHADE, ("lacks",), True)
        self.wrong("form", (2,), SHADE, ("ask", (), ("lacks",), None), True)

    def test_sort_of_inner(self):
        def giving(expression):
            return ("ask", (), expression, None)

        self.right(TRIM, giving(("param", "inner")), True)
        self.wrong("sort", (2,), TRIM, giving(("plus", "inner", 1)), True)
        self.wrong("sort", (2, 1), TRIM, giving(("if", ("most", "inner", 1), ("none",), ("none",))), True)
        self.right(TRIM, giving(("if", ("is", "inner", "a"), ("none",), ("none",))), True)
        self.wrong("sort", (2, 1), SHADE, giving(("if", ("is", "inner", "a"), ("none",), ("none",))), True)
        self.right(SHADE, giving(("if", ("most", "inner", 1), ("none",), ("none",))), True)
        number = Hook("f", "first", [("w", "word")])
        self.right(number, giving(("plus", "inner", 1)), True)
        word = Hook("f", "first", [("n", "number")], gives="word")
        self.wrong("sort", (2,), word, giving(("plus", "inner", 1)), True)

    def test_failing_none(self):
        self.right(SHADE, ("ask", (), ("none",), None), True)
        self.right(SHADE, ("ask", (), ("none",), ("none",)), True)
        self.wrong("form", (2,), SHADE, ("ask", (), None, None), True)

    def test_the_kind_of_the_hook_does_not_matter(self):
        for kind in ("first", "through", "each"):
            hook = Hook("f", kind, [("a", "number")])
            self.right(hook, ("ask", (("a", ("number", 1)),), ("plus", "inner", 1), ("none",)), True)
            self.right(hook, ("none",))
            self.wrong("sort", (), hook, ("word", "a"))

    def test_a_hook_without_parameters(self):
        hook = Hook("f", "first", [])
        self.right(hook, ("number", 1))
        self.right(hook, ("ask", (), ("if", ("lacks",), ("number", 1), ("param", "inner")), None), True)
        self.wrong("param", (), hook, ("param", "a"))

    def test_two_wrong_trees_the_first_one_is_told(self):
        test = ("most", "size", 1)
        self.wrong("param", (1,), SHADE, ("if", ("most", "no", 1), 5, 5))
        self.wrong("sort", (2,), SHADE, ("if", test, ("word", "a"), 5))
        self.wrong("form", (1, 2), SHADE, ("if", ("both", test, 3), ("word", "a"), 5))
        self.wrong("form", (), SHADE, ("if", 5, 5))
        self.wrong("form", (), SHADE, ("ask", (("size", 5),), 5, 5))
        self.wrong("form", (1, 0, 1), SHADE, ("ask", (("size", 5),), 5, 5), True)
        self.wrong("form", (2,), SHADE, ("ask", (("size", ("number", 1)),), 5, 5), True)
        self.wrong("form", (3,), SHADE, ("ask", (("size", ("number", 1)),), ("none",), 5), True)
        sends = tuple((name, ("none",) if name == "m" else ("number", 1)) for name in "nm")
        self.wrong("form", (1, 1, 1), BOTH, ("ask", sends, 5, None), True)

    def test_the_first_word_that_fits(self):
        self.wrong("form", (), TRIM, ("plus", "nosuch", True))
        self.wrong("form", (), TRIM, ("plus", "text", "a"))
        self.wrong("param", (), TRIM, ("plus", "nosuch", 1))
        self.wrong("form", (), SHADE, ("ask", (("nosuch", 1), 5), 5, 5), True)
        self.wrong("param", (), SHADE, ("ask", (("nosuch", 1), ("size", 1), ("size", 2)), 5, 5), True)

    def test_later_changes_do_not_matter_and_nothing_is_changed(self):
        body = ("if", ("most", "size", 1), ["number", 1], ("none",))
        for _ in range(2):
            self.wrong("form", (2,), SHADE, body)
        self.assertEqual(body, ("if", ("most", "size", 1), ["number", 1], ("none",)))

    def test_many_right_bodies(self):
        rng = random.Random(5)
        for _ in range(1500):
            hook, wraps = rng.choice(HOOKS), rng.random() < 0.6
            body = Maker(hook, rng).body(wraps, rng.randrange(5))
            self.right(hook, body, wraps)
            asks = any(tree[0] == "ask" for _, tree, _, _, _ in places(hook, body, wraps))
            if asks:
                self.assertEqual(fault(hook, body)[0], "form")
            else:
                self.right(hook, body)

    def test_many_wrong_bodies(self):
        rng = random.Random(6)
        for _ in range(1500):
            hook, wraps = rng.choice(HOOKS), rng.random() < 0.6
            body = Maker(hook, rng).body(wraps, rng.randrange(1, 5))
            found = places(hook, body, wraps)
            plants = {}
            for path, _, role, sort, inner in rng.sample(found, min(len(found), rng.randrange(1, 4))):
                if not any(path[:len(other)] == other or other[:len(path)] == path for other in plants):
                    plants[path] = rng.choice(wrong_trees(hook, role, sort, inner))
            for path, (_, tree) in plants.items():
                body = planted(body, path, tree)
            path = min(plants)
            self.wrong(plants[path][0], path, hook, body, wraps)

    def test_deep_things(self):
        test = ("most", "size", 1)
        for _ in range(5000):
            test = ("not", test)
        self.right(SHADE, ("if", test, ("none",), ("none",)))
        body = ("number", 1)
        for _ in range(3000):
            body = ("if", ("most", "size", 1), ("none",), body)
        self.right(SHADE, body, True)
        self.assertEqual(count(body), 9001)
        self.assertEqual(count(test), 5001)


def wrong_trees(hook, role, sort, inner):
    """Trees with the word that tells why they may not stand in a place."""
    if role == "test":
        found = [("form", tree) for tree in [("none",), ("number", 1), 5, None, ("not",), ("most", "n", True)]]
        found += [("param", ("most", "nosuch", 1)), ("param", ("is", "if", "a"))]
        for name, its, _ in hook.params + hook.only:
            found.append(("sort", ("is", name, "a") if its == "number" else ("most", name, 1)))
        return found if inner else found + [("form", ("lacks",)), ("param", ("is", "inner", "a"))]
    found = [("form", tree) for tree in [("lacks",), ("not", ("lacks",)), 5, [], ("none", 1), ("fail", 5), ("if", 5)]]
    found += [("param", ("param", "nosuch")), ("param", ("plus", "then", 1))]
    found.append(("sort", ("number", 1) if sort == "word" else ("word", "a")))
    found += [("sort", ("param", name)) for name, its, _ in hook.params + hook.only if its != sort]
    if role != "whole":
        found.append(("form", ("ask", (), ("none",), None)))
    else:
        found.append(("form", ("ask", [], ("none",), None)))
        found.append(("param", ("ask", (("nosuch", 5),), 5, None)))
    if role == "sent":
        found += [("form", ("none",)), ("form", ("fail", "a"))]
    return found if inner else found + [("param", ("param", "inner"))]


class ChildrenAndCount(unittest.TestCase):
    def test_example_of_the_document(self):
        body = ("ask", (("size", ("plus", "size", 1)),), ("plus", "inner", 2), None)
        self.assertEqual(count(body), 3)
        self.assertEqual(children(body)[0], ((1, 0, 1), ("plus", "size", 1)))
        self.assertEqual(children(body), (((1, 0, 1), ("plus", "size", 1)), ((2,), ("plus", "inner", 2))))

    def test_leaves(self):
        for tree in [
            ("number", 1), ("word", "a"), ("none",), ("param", "a"), ("plus", "a", 1), ("fail", "a"),
            ("most", "a", 1), ("is", "a", "b"), ("lacks",),
        ]:
            self.assertEqual(children(tree), ())
            self.assertEqual(count(tree), 1)

    def test_trees_with_trees_inside(self):
        one, other, e, f = ("most", "a", 1), ("lacks",), ("number", 1), ("none",)
        self.assertEqual(children(("if", one, e, f)), (((1,), one), ((2,), e), ((3,), f)))
        self.assertEqual(children(("not", one)), (((1,), one),))
        self.assertEqual(children(("both", one, other)), (((1,), one), ((2,), other)))
        self.assertEqual(children(("either", other, one)), (((1,), other), ((2,), one)))
        self.assertEqual(count(("if", ("both", one, ("not", other)), e, f)), 7)

    def test_ask(self):
        a, b, c, d = ("number", 1), ("number", 2), ("number", 3), ("number", 4)
        self.assertEqual(children(("ask", (), a, None)), (((2,), a),))
        self.assertEqual(children(("ask", (), a, b)), (((2,), a), ((3,), b)))
        self.assertEqual(
            children(("ask", (("x", c), ("y", d)), a, b)),
            (((1, 0, 1), c), ((1, 1, 1), d), ((2,), a), ((3,), b)),
        )
        self.assertEqual(count(("ask", (("x", c), ("y", d)), a, b)), 5)
        self.assertEqual(count(("ask", (), a, None)), 2)

    def test_by_name(self):
        self.assertEqual(children(tree=("not", ("lacks",))), (((1,), ("lacks",)),))
        self.assertEqual(count(tree=("not", ("lacks",))), 2)

    def test_kinds(self):
        found = children(("ask", (("x", ("none",)),), ("none",), ("none",)))
        self.assertIs(type(found), tuple)
        for pair in found:
            self.assertIs(type(pair), tuple)
            self.assertIs(type(pair[0]), tuple)

    def test_many_bodies(self):
        rng = random.Random(7)
        for _ in range(500):
            hook, wraps = rng.choice(HOOKS), rng.random() < 0.7
            body = Maker(hook, rng).body(wraps, rng.randrange(6))
            found = places(hook, body, wraps)
            self.assertEqual(count(body), len(found))
            for path, tree, _, _, _ in found:
                paths = [below for below, _ in children(tree)]
                self.assertEqual(paths, sorted(paths))
                self.assertEqual(children(tree), tuple(inside(tree)))
                reached = body
                for at in path:
                    reached = reached[at]
                self.assertIs(reached, tree)


if __name__ == "__main__":
    unittest.main()
