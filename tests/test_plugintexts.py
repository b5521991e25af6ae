"""Texts of plugins: point [26], with [13], [14], [24] and [25]."""

import random
import unittest

from bodymaker import Maker
from hookrow.bodies import check_body
from hookrow.bodytexts import read_body
from hookrow.errors import InvalidBody, InvalidText
from hookrow.hooks import Hook
from hookrow.plugins import Part, Plugin
from hookrow.plugintexts import read_plugin
from viability import first_fault

ONE = ("number", 1)
HOOK = Hook("shade", "first", [("size", "number"), ("mode", "word")])
NO_NAMES = ["", "A", "a1", "abcdefghi", "'a", "-", ",", "a-b"]
NO_PLUGIN_NAMES = NO_NAMES + ["before", "after", "early", "late", "wraps"]
# Words that stand somewhere in the texts of plugins, and words that do not.
WORDS = [
    "plugin", "on", "wraps", "early", "late", "middle", "before", "after", "", "a", "b", "c", "own", "shade", "none",
    "1", "'a", "A",
]


def at_of(text):
    """The index that the error for a text tells, or None if there is a plugin with it."""
    try:
        read_plugin(text)
    except InvalidText as error:
        return error.at
    return None


def is_name(word):
    return 1 <= len(word) <= 8 and all("a" <= sign <= "z" for sign in word)


def is_plugin_name(word):
    return is_name(word) and word not in NO_PLUGIN_NAMES


def are_wishes(words, own):
    """Whether words behind `before` or `after` are such names as may stand there."""
    return bool(words) and all(is_plugin_name(word) for word in words) and words == sorted(set(words)) \
        and own not in words


def is_line_of_part(line, own):
    """Whether a line may stand ahead of a body: it is taken apart from its end, unlike the package does it."""
    words = line.split(" ")
    if len(words) < 2 or words[0] != "on" or not is_name(words[1]):
        return False
    rest = words[2:]
    for word in ("after", "before"):
        if word in rest:
            at = len(rest) - 1 - rest[::-1].index(word)
            if not are_wishes(rest[at + 1:], own):
                return False
            rest = rest[:at]
    return rest in [wraps + layer for wraps in ([], ["wraps"]) for layer in ([], ["early"], ["late"])]


def fault_in(text):
    """The index of the first line that cannot stand there, or None."""
    lines = text.split("\n")
    first = lines[0].split(" ")
    if len(first) != 2 or first[0] != "plugin" or not is_plugin_name(first[1]):
        return 0
    hooks = []
    for at, line in enumerate(lines[1:], 1):
        if at % 2 == 1:
            if not is_line_of_part(line, first[1]) or hooks and line.split(" ")[1] <= hooks[-1]:
                return at
            hooks.append(line.split(" ")[1])
        elif first_fault(line) is not None:
            return at
    return len(lines) if len(lines) % 2 == 0 else None


def some_plugin(rng, own="own"):
    """A plugin with no, one or several parts of all forms."""
    parts = []
    for hook in rng.sample(["a", "b", "shade", "tint", "wraps", "before", "on"], rng.choice([0, 1, 1, 2, 3, 5])):
        wraps = rng.random() < 0.4
        parts.append(Part(
            hook, Maker(HOOK, rng).body(wraps, 3),
            before=rng.sample(["a", "b", "c", "on", "plugin"], rng.choice([0, 0, 1, 2, 5])),
            after=rng.sample(["a", "b", "c", "middle", "none"], rng.choice([0, 0, 1, 2, 5])),
            layer=rng.choice(["early", "middle", "late"]), wraps=wraps,
        ))
    return Plugin(own, parts)


class Read(unittest.TestCase):
    def test_example(self):
        plugin = read_plugin("plugin dim\non shade wraps after a\nask giving inner + 1")
        body = ("ask", (), ("plus", "inner", 1), None)
        self.assertEqual(plugin, Plugin("dim", [Part("shade", body, wraps=True, after=["a"])]))
        self.assertEqual(at_of("plugin dim\non shade late late\n5"), 1)

    def test_without_parts(self):
        self.assertEqual(read_plugin("plugin a"), Plugin("a", []))

    def test_each_attribute(self):
        text = (
            "plugin own\non paint\nnone\non shade wraps early before a b after c on\n"
            "ask with size = 0 , mode = 'red giving inner failing fail late\non tint late after a\nsize - 2"
        )
        plugin = read_plugin(text)
        self.assertEqual(plugin.name, "own")
        self.assertEqual([part.hook for part in plugin.parts], ["paint", "shade", "tint"])
        self.assertEqual([part.layer for part in plugin.parts], ["middle", "early", "late"])
        self.assertEqual([part.wraps for part in plugin.parts], [False, True, False])
        self.assertTrue(all(part.wraps in (True, False) and isinstance(part.wraps, bool) for part in plugin.parts))
        self.assertEqual([part.before for part in plugin.parts], [(), ("a", "b"), ()])
        self.assertEqual([part.after for part in plugin.parts], [(), ("c", "on"), ("a",)])
        self.assertEqual([part.body for part in plugin.parts], [
            ("none",),
            ("ask", (("size", ("number", 0)), ("mode", ("word", "red"))), ("param", "inner"), ("fail", "late")),
            ("plus", "size", -2),
        ])
        self.assertEqual(str(plugin), text)

    def test_by_name(self):
        self.assertEqual(read_plugin(text="plugin a"), Plugin("a", []))

    def test_reads_what_is_written(self):
        rng = random.Random(26)
        for _ in range(400):
            plugin = some_plugin(rng)
            again = read_plugin(str(plugin))
            self.assertEqual(again, plugin)
            self.assertEqual(str(again), str(plugin))

    def test_names_of_any_words(self):
        """Words that stand elsewhere in the text may be names, too."""
        for word in ["on", "plugin", "middle", "none", "if", "a", "abcdefgh"]:
            plugin = Plugin(word, [Part("on", ONE, before=["own"])])
            self.assertEqual(read_plugin(str(plugin)), plugin)
        for hook in ["on", "plugin", "before", "after", "early", "late", "wraps", "if", "abcdefgh"]:
            for how in [{}, {"wraps": True}, {"layer": "early"}, {"before": ["on"]}, {"after": ["plugin"]}]:
                plugin = Plugin("own", [Part(hook, ONE, **how)])
                self.assertEqual(read_plugin(str(plugin)), plugin)

    def test_one_name_ahead_and_behind(self):
        plugin = Plugin("own", [Part("shade", ONE, before=["a"], after=["a"])])
        self.assertEqual(read_plugin(str(plugin)), plugin)

    def test_whether_a_body_fits_is_not_looked_at(self):
        plugin = read_plugin("plugin own\non shade\nask giving wrong + 3")
        self.assertEqual((plugin.parts[0].wraps, plugin.parts[0].body[0]), (False, "ask"))
        with self.assertRaises(InvalidBody):
            check_body(HOOK, plugin.parts[0].body)
        self.assertEqual(read_plugin("plugin own\non shade wraps\n5").parts[0].body, ("number", 5))

    def test_long_and_deep_bodies(self):
        body = ("number", 1)
        for _ in range(60):
            body = ("if", ("most", "size", 3), body, ("none",))
        plugin = read_plugin(str(Plugin("own", [Part("shade", body)])))
        self.assertEqual(str(plugin), str(Plugin("own", [Part("shade", body)])))


class Refused(unittest.TestCase):
    def check_lines(self, cases):
        for text, at in cases:
            with self.subTest(text):
                self.assertEqual(fault_in(text), at)
                self.assertEqual(at_of(text), at)

    def test_first_line(self):
        self.check_lines([(text, 0) for text in [
            "", " ", "plugin", "plugin ", " plugin a", "plugin  a", "plugin a ", "plugin a b", "plugin plugin a", "a",
            "on shade", "5", "\n", "\nplugin a", "Plugin a", "plugin\na", "plugin a,", "plugin a\t", "hook a",
            "a plugin", *[f"plugin {name}" for name in NO_PLUGIN_NAMES],
        ]])

    def test_line_of_a_part(self):
        for line in [
            "", " ", "on", "on ", "shade", "off shade", "on  shade", " on shade", "on shade ", "on Shade", "on shade1",
            "on abcdefghi", "on shade middle", "on shade late late", "on shade early late", "on shade late wraps",
            "on shade wraps wraps", "on shade before", "on shade after", "on shade before after a",
            "on shade before a after", "on shade after a before b", "on shade before a before b", "on shade before b a",
            "on shade before a a", "on shade after b a", "on shade after a a", "on shade before own",
            "on shade after own", "on shade before a own", "on shade after a own", "on shade before A",
            "on shade before a late", "on shade before a wraps", "on shade after a early", "on shade a", "on shade 5",
            "on shade before  a", "on shade before a  b", "on shade before a after b after c", "on shade shade",
            "on shade wraps before a\t", "on shade early wraps", "on wraps shade", "plugin own", "5", "wraps on shade",
            "on shade before a1", "on shade after abcdefghi", "on shade wraps  late", "on shade late ",
            *[f"on {name}" for name in NO_NAMES], *[f"on shade before {name}" for name in NO_PLUGIN_NAMES],
            *[f"on shade after {name}" for name in NO_PLUGIN_NAMES],
        ]:
            self.check_lines([(f"plugin own\n{line}\n5", 1), (f"plugin own\n{line}", 1)])
            self.check_lines([(f"plugin own\n{line}\nno body", 1), (f"plugin own\non a\n5\n{line}\n5", 3)])

    def test_hooks_ascending(self):
        self.check_lines([
            ("plugin own\non b\n5\non a\n5", 3), ("plugin own\non b\n5\non b\n5", 3),
            ("plugin own\non a\n5\non c\n5\non b\n5", 5), ("plugin own\non b\n5\non b late\n5", 3),
            ("plugin own\non b\n5\non aa\n5", 3), ("plugin own\non b\n5\non ba\n5", None),
            ("plugin own\non a\n5\non b\n5\non c\n5", None),
        ])

    def test_bodies(self):
        for line in [
            "", " ", "ask", "if", "1 2", "01", "-0", "none none", "'", "'A", "fail", "size +", "size - 0", "size + -1",
            "ask giving ask giving 1", "ask with size = none giving 1", "if size <= 3 then 1", "5 ", " 5", "size  + 1",
            "1234567890", "on shade", "plugin own", "<=", "if unanswered then 1 else", "inner = 3", "\t5",
        ]:
            self.check_lines([(f"plugin own\non shade\n{line}", 2), (f"plugin own\non shade\n{line}\non a", 2)])
            self.check_lines([(f"plugin own\non a\n5\non shade\n{line}", 4)])

    def test_texts_that_end_too_early(self):
        self.check_lines([
            ("plugin own\non shade", 2), ("plugin own\non a\n5\non shade wraps late", 4),
            ("plugin own\non a\n5\non b\n5\non c before a b", 6),
        ])

    def test_a_newline_at_the_end(self):
        self.check_lines([
            ("plugin own\n", 1), ("plugin own\non shade\n", 2), ("plugin own\non shade\n5\n", 3),
            ("plugin own\n\n", 1), ("plugin own\n\non shade\n5", 1), ("plugin own\non shade\n\n5", 2),
        ])

    def test_the_first_fault_counts(self):
        self.check_lines([
            ("plugin A\non\n", 0), ("plugin own\non\nif", 1), ("plugin own\non shade\nif\non", 2),
            ("plugin own\non b\n5\non a\nif", 3), ("plugin own\non b\nif\non a\n5", 2),
        ])

    def test_words_changed_in_drawn_texts(self):
        """Each word of a text left out, twice, exchanged with the next, or with another word in its place."""
        rng = random.Random(14)
        refused = 0
        for _ in range(25):
            lines = [line.split(" ") for line in str(some_plugin(rng)).split("\n")]
            for row, line in enumerate(lines):
                for at in range(len(line)):
                    for words in self.changed(rng, line, at):
                        text = "\n".join(" ".join(each) for each in [*lines[:row], words, *lines[row + 1:]])
                        self.assertEqual(at_of(text), fault_in(text), text)
                        refused += fault_in(text) is not None
        self.assertGreater(refused, 500)

    def changed(self, rng, line, at):
        yield line[:at] + line[at + 1:]
        yield line[:at] + [line[at]] + line[at:]
        yield line[:at] + line[at:at + 2][::-1] + line[at + 2:]
        yield line[:at] + [rng.choice(WORDS)] + line[at + 1:]
        yield line[:at] + [rng.choice(WORDS)] + line[at:]

    def test_lines_changed_in_drawn_texts(self):
        """Each line left out, twice, exchanged with the next, or with another line in its place."""
        rng = random.Random(15)
        for _ in range(150):
            lines = str(some_plugin(rng)).split("\n")
            others = str(some_plugin(rng)).split("\n") + ["", "none"]
            for at in range(len(lines)):
                for rows in [
                    lines[:at] + lines[at + 1:], lines[:at] + [lines[at]] + lines[at:], lines[:at],
                    lines[:at] + lines[at:at + 2][::-1] + lines[at + 2:],
                    lines[:at] + [rng.choice(others)] + lines[at + 1:], lines[:at] + [rng.choice(others)] + lines[at:],
                ]:
                    text = "\n".join(rows)
                    self.assertEqual(at_of(text), fault_in(text), text)

    def test_the_plugin_name_is_no_wish(self):
        rng = random.Random(16)
        for own in ["a", "b", "c", "d"]:
            for _ in range(50):
                plugin = some_plugin(rng)
                rows = str(plugin).split("\n")
                text = "\n".join([f"plugin {own}", *rows[1:]])
                self.assertEqual(at_of(text), fault_in(text), text)

    def test_what_is_read_may_be_said_again(self):
        self.assertEqual(read_body(str(read_plugin("plugin a\non b\nsize + 1")).split("\n")[2]), ("plus", "size", 1))


if __name__ == "__main__":
    unittest.main()
