"""Plugins: points [1], [2], [24], [25], and the texts of plugins ([26])."""

import itertools
import unittest
import unittest.mock

from hookrow.bodytexts import read_body
from hookrow.errors import InvalidPlugin
from hookrow.plugins import Part, Plugin

NUMBER = ("number", 1)
BODIES = [
    ("number", 1), ("number", 2), ("word", "red"), ("none",), ("param", "size"), ("plus", "size", 1),
    ("plus", "size", 2),
    ("fail", "red"), ("if", ("most", "size", 3), ("number", 1), ("none",)),
    ("if", ("most", "size", 4), ("number", 1), ("none",)),
    ("if", ("is", "mode", "red"), ("number", 1), ("none",)),
    ("if", ("not", ("is", "mode", "red")), ("number", 1), ("none",)),
    ("if", ("both", ("most", "size", 3), ("is", "mode", "a")), ("word", "b"), ("none",)),
    ("if", ("either", ("most", "size", 3), ("is", "mode", "a")), ("word", "b"), ("none",)),
    ("ask", (), ("param", "inner"), None), ("ask", (("size", ("number", 1)),), ("param", "inner"), None),
    ("ask", (), ("param", "inner"), ("none",)),
    ("ask", (), ("if", ("lacks",), ("number", 0), ("param", "inner")), None),
]
NO_NAMES = [
    "", "A", "aB", "a1", "a b", "a\n", "abcdefghi", "\xe4", "'a", 0, 1, None, True, False, (), ("a",), [], ["a"], {},
    1.5,
    b"a", object(), Part, 10 ** 30,
]
NO_PLUGIN_NAMES = NO_NAMES + ["before", "after", "early", "late", "wraps"]
NO_LAYERS = [
    "", "Early", "earl", "mid", "none", 0, 1, None, True, False, (), ("early",), ["late"], {}, object(), b"late",
]
NO_WRAPS = [0, 1, None, "", "True", "wraps", (), (True,), [], [True], 1.0, object(), bool]


def fault(work):
    """The word and the hook that the error of a piece of work tells."""
    try:
        work()
    except InvalidPlugin as error:
        return (error.word, error.hook)
    return None


def fault_of_part(*args, **named):
    return fault(lambda: Part(*args, **named))


def fault_of_plugin(*args, **named):
    return fault(lambda: Plugin(*args, **named))


def told(part):
    return (part.hook, part.body, part.before, part.after, part.layer, part.wraps)


class MadeParts(unittest.TestCase):
    def test_attributes(self):
        part = Part("shade", NUMBER, before=["c", "a"], after=("d", "b"), layer="late", wraps=True)
        self.assertEqual(told(part), ("shade", NUMBER, ("a", "c"), ("b", "d"), "late", True))
        self.assertIs(part.wraps, True)

    def test_defaults(self):
        for part in [Part("shade", NUMBER), Part(body=NUMBER, hook="shade")]:
            self.assertEqual(told(part), ("shade", NUMBER, (), (), "middle", False))
            self.assertIs(part.wraps, False)

    def test_behind_the_star_by_name_only(self):
        with self.assertRaises(TypeError):
            Part("shade", NUMBER, ["a"])

    def test_names_ascending_without_duplicates(self):
        for form in (list, tuple):
            for names, sorted_names in [
                ([], ()), (["a"], ("a",)), (["a", "a"], ("a",)), (["c", "a", "b", "a", "c"], ("a", "b", "c")),
                (["b", "abcdefgh", "ab"], ("ab", "abcdefgh", "b")),
                (["middle", "plugin", "on", "if"], ("if", "middle", "on", "plugin")),
            ]:
                part = Part("shade", NUMBER, before=form(names))
                self.assertEqual((part.before, part.after), (sorted_names, ()))
                self.assertIs(type(part.before), tuple)
                part = Part("shade", NUMBER, after=form(names))
                self.assertEqual((part.before, part.after), ((), sorted_names))
                self.assertIs(type(part.after), tuple)

    def test_layers(self):
        for layer in ("early", "middle", "late"):
            self.assertEqual(Part("shade", NUMBER, layer=layer).layer, layer)

    def test_hooks(self):
        for hook in ["a", "abcdefgh", "if", "inner", "before", "wraps", "early"]:
            self.assertEqual(Part(hook, NUMBER).hook, hook)

    def test_bodies_stay_as_they_are(self):
        for body in BODIES:
            self.assertEqual(Part("shade", body).body, body)

    def test_lists_changed_behind(self):
        before, after = ["b", "a"], ["d"]
        part = Part("shade", NUMBER, before=before, after=after)
        before.clear()
        after.append("c")
        self.assertEqual((part.before, part.after), (("a", "b"), ("d",)))

    def test_lists_are_not_changed(self):
        before, after = ["b", "a", "b"], ["d", "c"]
        Part("shade", NUMBER, before=before, after=after)
        self.assertEqual((before, after), (["b", "a", "b"], ["d", "c"]))

    def test_equal(self):
        parts = [lambda body=body: Part("shade", body) for body in BODIES] + [
            lambda: Part("tint", NUMBER), lambda: Part("shade", NUMBER, before=["a"]),
            lambda: Part("shade", NUMBER, before=["b"]),
            lambda: Part("shade", NUMBER, before=["a", "b"]), lambda: Part("shade", NUMBER, after=["a"]),
            lambda: Part("shade", NUMBER, layer="early"), lambda: Part("shade", NUMBER, layer="late"),
            lambda: Part("shade", NUMBER, wraps=True), lambda: Part("shade", NUMBER, before=["a"], after=["b"]),
        ]
        for one, other in itertools.product(range(len(parts)), repeat=2):
            self.assertIs(parts[one]() == parts[other](), one == other)
            self.assertIs(parts[one]() != parts[other](), one != other)
        again = Part("shade", NUMBER, before=("a", "b", "a"), layer="middle")
        self.assertEqual(Part("shade", NUMBER, before=["b", "a"]), again)

    def test_equal_to_nothing_else(self):
        plugin = Plugin("shade", [])
        for thing in [
            None, True, 0, "shade", ("shade", NUMBER), [], {}, NUMBER, object(), Part, plugin, unittest.mock.ANY,
        ]:
            self.assertIs(Part("shade", NUMBER) == thing, False)
            self.assertIs(Part("shade", NUMBER) != thing, True)


class WrongParts(unittest.TestCase):
    def test_hook(self):
        for thing in NO_NAMES:
            self.assertEqual(fault_of_part(thing, NUMBER), ("hook", thing))

    def test_before_and_after(self):
        for thing, word in itertools.product(NO_PLUGIN_NAMES, ("before", "after")):
            for things in ([thing], (thing,), ["a", thing], [thing, "b"], ("a", thing, "b")):
                self.assertEqual(fault_of_part("shade", NUMBER, **{word: things}), (word, "shade"))

    def test_before_and_after_that_are_no_lists(self):
        for thing in ["", "a", "ab", None, 0, True, {"a": 1}, {"a"}, object()]:
            self.assertEqual(fault_of_part("shade", NUMBER, before=thing), ("before", "shade"))
            self.assertEqual(fault_of_part("shade", NUMBER, after=thing), ("after", "shade"))

    def test_layer(self):
        for thing in NO_LAYERS + [unittest.mock.ANY]:
            self.assertEqual(fault_of_part("shade", NUMBER, layer=thing), ("layer", "shade"))

    def test_wraps(self):
        for thing in NO_WRAPS:
            self.assertEqual(fault_of_part("shade", NUMBER, wraps=thing), ("wraps", "shade"))

    def test_two_at_once(self):
        wrong = {"before": ["late"], "after": ["A"], "layer": True, "wraps": 1}
        words = ["hook", *wrong]
        for many in range(1, 6):
            for some in itertools.combinations(words, many):
                hook = "Shade" if "hook" in some else "shade"
                named = {word: wrong[word] for word in reversed(some) if word != "hook"}
                self.assertEqual(fault_of_part(hook, NUMBER, **named), (some[0], hook))


class MadePlugins(unittest.TestCase):
    def test_attributes(self):
        shade, tint, dim = Part("shade", NUMBER), Part("tint", NUMBER), Part("dim", NUMBER)
        for parts in itertools.permutations([shade, tint, dim]):
            for form in (list, tuple):
                plugin = Plugin("red", form(parts))
                self.assertEqual(plugin.name, "red")
                self.assertEqual(plugin.parts, (dim, shade, tint))
                self.assertIs(type(plugin.parts), tuple)

    def test_without_parts(self):
        for parts in ([], ()):
            self.assertEqual(Plugin("red", parts).parts, ())

    def test_by_name(self):
        plugin = Plugin(parts=[Part("shade", NUMBER)], name="red")
        self.assertEqual((plugin.name, plugin.part(hook="shade")), ("red", Part("shade", NUMBER)))

    def test_part(self):
        parts = [Part(hook, ("number", at)) for at, hook in enumerate(["tint", "shade", "dim"])]
        plugin = Plugin("red", parts)
        for part in parts:
            self.assertEqual(plugin.part(part.hook), part)
        for hook in ["trim", "", "red", "shad", "Shade", "number"]:
            self.assertIsNone(plugin.part(hook))
        self.assertIsNone(Plugin("red", []).part("shade"))

    def test_names(self):
        for name in ["a", "abcdefgh", "middle", "plugin", "on", "if", "inner", "host", "none"]:
            self.assertEqual(Plugin(name, []).name, name)

    def test_lists_changed_behind(self):
        parts = [Part("shade", NUMBER)]
        plugin = Plugin("red", parts)
        parts.append(Part("tint", NUMBER))
        self.assertEqual(plugin.parts, (Part("shade", NUMBER),))
        parts.clear()
        self.assertEqual(plugin.part("shade"), Part("shade", NUMBER))

    def test_lists_are_not_changed(self):
        parts = [Part("tint", NUMBER), Part("shade", NUMBER)]
        Plugin("red", parts)
        self.assertEqual(parts, [Part("tint", NUMBER), Part("shade", NUMBER)])

    def test_equal(self):
        parts = [Part("shade", NUMBER), Part("shade", ("number", 2)), Part("tint", NUMBER)]
        parts.append(Part("shade", NUMBER, wraps=True))
        plugins = [("red", ()), ("blue", ())] + [(name, (part,)) for name in ("red", "blue") for part in parts]
        plugins += [("red", (parts[0], parts[2])), ("red", (parts[1], parts[2]))]
        for one, other in itertools.product(plugins, repeat=2):
            self.assertIs(Plugin(*one) == Plugin(*other), one == other)
            self.assertIs(Plugin(*one) != Plugin(*other), one != other)
        self.assertEqual(Plugin("red", [parts[0], parts[2]]), Plugin("red", (parts[2], parts[0])))

    def test_equal_to_nothing_else(self):
        part = Part("red", NUMBER)
        for thing in [
            None, True, 0, "red", "plugin red", ("red", ()), [], {}, object(), Plugin, part, unittest.mock.ANY,
        ]:
            self.assertIs(Plugin("red", []) == thing, False)
            self.assertIs(Plugin("red", []) != thing, True)


class WrongPlugins(unittest.TestCase):
    def test_name(self):
        for thing in NO_PLUGIN_NAMES:
            self.assertEqual(fault_of_plugin(thing, []), ("name", thing))
            self.assertEqual(fault_of_plugin(thing, [Part("shade", NUMBER)] * 2), ("name", thing))

    def test_twice(self):
        for hooks, first in [
            ("aa", "a"), ("aba", "a"), ("abb", "b"), ("abba", "b"), ("baab", "a"), ("cbacb", "c"), ("cbabc", "b"),
            ("abccba", "c"),
        ]:
            for form in (list, tuple):
                parts = form([Part(hook, ("number", at)) for at, hook in enumerate(hooks)])
                self.assertEqual(fault_of_plugin("red", parts), ("twice", first))

    def test_itself(self):
        plain, before = Part("c", NUMBER, before=["blue"]), Part("b", NUMBER, before=["a", "red"])
        after = Part("a", NUMBER, after=["red"])
        for parts, first in [
            ([before], "b"), ([after], "a"), ([plain, before], "b"), ([plain, before, after], "b"),
            ([after, plain, before], "a"),
            ([before, after], "b"),
        ]:
            self.assertEqual(fault_of_plugin("red", parts), ("itself", first))
        self.assertIsNone(fault_of_plugin("green", [plain, before, after]))

    def test_twice_ahead_of_itself(self):
        own, other = Part("a", NUMBER, before=["red"]), Part("b", NUMBER)
        self.assertEqual(fault_of_plugin("red", [own, other, other]), ("twice", "b"))
        self.assertEqual(fault_of_plugin("red", [own, own]), ("twice", "a"))


class Texts(unittest.TestCase):
    def test_without_parts(self):
        self.assertEqual(str(Plugin("red", [])), "plugin red")

    def test_one_part(self):
        for named, line in [
            ({}, "on shade"), ({"layer": "middle"}, "on shade"), ({"layer": "early"}, "on shade early"),
            ({"layer": "late"}, "on shade late"), ({"wraps": True}, "on shade wraps"),
            ({"before": ["a"]}, "on shade before a"),
            ({"after": ["a"]}, "on shade after a"), ({"before": ["b", "a", "b"]}, "on shade before a b"),
            ({"after": ["c", "b", "a"]}, "on shade after a b c"),
            ({"before": ["d"], "after": ["b"]}, "on shade before d after b"),
            ({"wraps": True, "layer": "late"}, "on shade wraps late"),
            ({"wraps": True, "layer": "early", "before": ["b", "a"]}, "on shade wraps early before a b"),
            ({"wraps": True, "layer": "late", "before": ["b", "a"], "after": ["d", "c"]},
             "on shade wraps late before a b after c d"),
            ({"layer": "late", "after": ["c"]}, "on shade late after c"),
            ({"wraps": True, "after": ["a"]}, "on shade wraps after a"),
            ({"before": ["middle", "on"]}, "on shade before middle on"),
        ]:
            self.assertEqual(str(Plugin("red", [Part("shade", NUMBER, **named)])), f"plugin red\n{line}\n1")

    def test_several_parts(self):
        parts = [
            Part("tint", ("none",), layer="late"), Part("dim", ("ask", (), ("plus", "inner", 1), None), wraps=True),
            Part("shade", ("if", ("most", "size", 9), ("number", 1), ("none",)), before=["z"], after=["y"]),
        ]
        text = (
            "plugin red\non dim wraps\nask giving inner + 1\non shade before z after y\nif size <= 9 then 1 else none\n"
            "on tint late\nnone"
        )
        for each in itertools.permutations(parts):
            self.assertEqual(str(Plugin("red", each)), text)

    def test_bodies(self):
        for body in BODIES:
            lines = str(Plugin("red", [Part("shade", body)])).split("\n")
            self.assertEqual(lines[:2], ["plugin red", "on shade"])
            self.assertEqual(read_body(lines[2]), body)
            self.assertEqual(len(lines), 3)

    def test_deep_bodies(self):
        body = ("none",)
        for _ in range(400):
            body = ("if", ("not", ("most", "size", 1)), ("number", 1), body)
        lines = str(Plugin("red", [Part("shade", body)])).split("\n")
        self.assertEqual(lines[2], "if not size <= 1 then 1 else " * 400 + "none")


class Examples(unittest.TestCase):
    def test_examples(self):
        plugin = Plugin("dim", [Part("shade", ("ask", (), ("plus", "inner", 1), None), wraps=True, after=["a"])])
        self.assertEqual(str(plugin), "plugin dim\non shade wraps after a\nask giving inner + 1")
        Plugin("a", [Part("shade", ("if", ("most", "size", 9), ("number", 1), ("none",)))])
        part = Part("shade", ("none",), after=["a"], before=["c"])
        self.assertEqual(Plugin("b", [part]).part("shade"), part)


if __name__ == "__main__":
    unittest.main()
