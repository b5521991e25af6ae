"""Texts of bodies: points [13] and [14]."""

import random
import re
import unittest

from bodymaker import Maker
from hookrow.bodies import check_body
from hookrow.bodytexts import read_body, show_body
from hookrow.errors import InvalidText
from hookrow.hooks import Hook
from viability import first_fault

SHADE = Hook("shade", "first", [("size", "number")])
TRIM = Hook("trim", "through", [("text", "word"), ("size", "number", 3)], only=[("mode", "word", "hard")], gives="word")
BOTH = Hook("both", "each", [("n", "number"), ("w", "word")], only=[("m", "number")])
KEPT = "if then else not both and either or is none fail ask with giving failing inner unanswered".split()
SIGNS = ["+", "-", "=", ",", "<="]

SIZE, MODE = ("most", "size", 3), ("is", "mode", "red")
TEXTS = [
    ("5", ("number", 5)),
    ("0", ("number", 0)),
    ("-3", ("number", -3)),
    ("999999999", ("number", 999999999)),
    ("-999999999", ("number", -999999999)),
    ("'red", ("word", "red")),
    ("'abcdefgh", ("word", "abcdefgh")),
    ("'none", ("word", "none")),
    ("none", ("none",)),
    ("size", ("param", "size")),
    ("inner", ("param", "inner")),
    ("size + 2", ("plus", "size", 2)),
    ("size - 2", ("plus", "size", -2)),
    ("size + 0", ("plus", "size", 0)),
    ("inner - 999999999", ("plus", "inner", -999999999)),
    ("fail red", ("fail", "red")),
    ("fail if", ("fail", "if")),
    ("fail fail", ("fail", "fail")),
    ("if size <= 3 then 1 else none", ("if", SIZE, ("number", 1), ("none",))),
    ("if mode is 'red then size else mode", ("if", MODE, ("param", "size"), ("param", "mode"))),
    ("if size <= -3 then none else none", ("if", ("most", "size", -3), ("none",), ("none",))),
    ("if mode is 'else then none else none", ("if", ("is", "mode", "else"), ("none",), ("none",))),
    ("if not size <= 3 then 1 else 2", ("if", ("not", SIZE), ("number", 1), ("number", 2))),
    ("if both size <= 3 and mode is 'red then 1 else 2", ("if", ("both", SIZE, MODE), ("number", 1), ("number", 2))),
    ("if either size <= 3 or mode is 'red then 1 else 2", ("if", ("either", SIZE, MODE), ("number", 1), ("number", 2))),
    ("if unanswered then 1 else 2", ("if", ("lacks",), ("number", 1), ("number", 2))),
    (
        "if size <= 3 then if mode is 'red then 1 else 2 else if mode is 'red then 3 else 4",
        ("if", SIZE, ("if", MODE, ("number", 1), ("number", 2)), ("if", MODE, ("number", 3), ("number", 4))),
    ),
    ("ask giving inner", ("ask", (), ("param", "inner"), None)),
    ("ask giving inner failing none", ("ask", (), ("param", "inner"), ("none",))),
    ("ask with size = 0 giving none", ("ask", (("size", ("number", 0)),), ("none",), None)),
    (
        "ask with size = size + 1 , mode = 'red giving inner - 1 failing fail bad",
        ("ask", (("size", ("plus", "size", 1)), ("mode", ("word", "red"))), ("plus", "inner", -1), ("fail", "bad")),
    ),
    (
        "ask with size = if mode is 'red then 1 else size giving if unanswered then 1 else inner",
        (
            "ask", (("size", ("if", MODE, ("number", 1), ("param", "size"))),),
            ("if", ("lacks",), ("number", 1), ("param", "inner")), None,
        ),
    ),
    (
        "if size <= 3 then ask giving inner failing 1 else ask giving 2",
        ("if", SIZE, ("ask", (), ("param", "inner"), ("number", 1)), ("ask", (), ("number", 2), None)),
    ),
    (
        "ask with size = 1 , size = 2 giving 3",
        ("ask", (("size", ("number", 1)), ("size", ("number", 2))), ("number", 3), None),
    ),
    ("ask with size = inner giving 3", ("ask", (("size", ("param", "inner")),), ("number", 3), None)),
]


def fault(text):
    """The index at which a text is refused, or None if it is read."""
    try:
        read_body(text)
    except InvalidText as error:
        return error.at
    return None


class Shown(unittest.TestCase):
    def test_examples_of_the_document(self):
        body = ("if", ("both", ("most", "size", 3), ("not", ("is", "mode", "red"))), ("plus", "size", -1), ("none",))
        self.assertEqual(show_body(body), "if both size <= 3 and not mode is 'red then size - 1 else none")
        self.assertEqual(
            read_body("ask with size = 0 giving inner + 1"),
            ("ask", (("size", ("number", 0)),), ("plus", "inner", 1), None),
        )
        self.assertEqual(fault("if size <= red then 1 else 2"), 3)

    def test_each_tree(self):
        for text, body in TEXTS:
            self.assertEqual(show_body(body), text)
            self.assertEqual(read_body(text), body)

    def test_by_name(self):
        self.assertEqual(show_body(body=("none",)), "none")
        self.assertEqual(read_body(text="none"), ("none",))

    def test_three_sends(self):
        body = ("ask", (("a", ("number", 1)), ("b", ("param", "c")), ("c", ("plus", "a", 0))), ("none",), None)
        text = "ask with a = 1 , b = c , c = a + 0 giving none"
        self.assertEqual((show_body(body), read_body(text)), (text, body))

    def test_long_integers_are_shown(self):
        self.assertEqual(show_body(("number", 10 ** 12)), "1" + "0" * 12)
        self.assertEqual(show_body(("plus", "a", -(10 ** 12))), "a - 1" + "0" * 12)

    def test_kinds_of_what_is_read(self):
        body = read_body("ask with size = 1 giving inner + 1 failing 'a")
        self.assertIs(type(body), tuple)
        self.assertIs(type(body[1]), tuple)
        self.assertIs(type(body[1][0]), tuple)
        self.assertIs(type(body[2][2]), int)

    def test_there_and_back(self):
        rng = random.Random(8)
        for _ in range(1500):
            hook, wraps = rng.choice([SHADE, TRIM, BOTH]), rng.random() < 0.6
            body = Maker(hook, rng).body(wraps, rng.randrange(6))
            text = show_body(body)
            self.assertEqual(read_body(text), body)
            self.assertTrue(check_body(hook, read_body(text), wraps=wraps))
            self.assertIsNone(first_fault(text))


class Read(unittest.TestCase):
    def fault_is(self, at, *texts):
        for text in texts:
            self.assertEqual(fault(text), at, text)

    def test_empty_words(self):
        self.fault_is(0, "", " ", "  ", " 5", " size + 1", "  none")
        self.fault_is(1, "5 ", "none ", "'red ", "size ", "if ", "ask ", "fail ", "if  size <= 3 then 1 else 2", "5  ")
        self.fault_is(2, "size + ", "size +  2", "fail red ", "ask giving ", "if size ")
        self.fault_is(3, "size + 2 ", "if size <=  3 then 1 else 2")
        self.fault_is(8, "if size <= 3 then 1 else 2 ")

    def test_too_early_ends(self):
        text = "if both size <= 3 and not mode is 'red then size - 1 else none"
        words = text.split(" ")
        for many in range(1, len(words)):
            self.fault_is(many, " ".join(words[:many]))
        text = "ask with size = size + 1 , mode = 'red giving inner - 1 failing fail bad"
        words = text.split(" ")
        for many in range(1, len(words)):
            self.fault_is(None if many in (13, 15) else many, " ".join(words[:many]))

    def test_numbers(self):
        self.fault_is(
            0, "-0", "00", "01", "-01", "+1", "--1", "-", "1234567890", "-1234567890", "1a", "1.5", "1_0", "0x1",
        )
        self.fault_is(
            2, "size + -1", "size + -0", "size + 01", "size + 1234567890", "size + size", "size + 'a", "size + +",
        )
        self.fault_is(2, "size - 0", "size - -1", "size - 01", "size - 1234567890", "size - size", "size - none")
        self.fault_is(
            3, "if size <= -0 then 1 else 2", "if size <= 01 then 1 else 2", "if size <= 1234567890 then 1 else 2",
        )
        self.fault_is(None, "123456789", "-123456789", "size + 0", "size + 123456789", "size - 123456789")
        self.fault_is(1, "5 + 1", "5 5", "'a + 1", "none + 1", "-3 - 1")
        self.fault_is(3, "size + 1 + 1", "size - 1 - 1", "inner + 1 , 1")
        self.fault_is(2, "fail size + 1")

    def test_digits_that_are_no_decimal_digits(self):
        self.fault_is(0, "\xb2", "\u0663", "-\u0663")
        self.fault_is(2, "size + \u0663")

    def test_words(self):
        self.fault_is(0, "'", "''a", "'A", "'abcdefghi", "'a1", "'a'", "\"a", "'a_b", "'\xe4")
        self.fault_is(1, "fail 'red", "fail abcdefghi", "fail Red", "fail 5", "fail unanswered")
        self.fault_is(
            3, "if mode is red then 1 else 2", "if mode is 5 then 1 else 2", "if mode is 'unanswered then 1 else 2",
        )
        self.fault_is(None, "fail then", "'then", "if mode is 'inner then 1 else 2")

    def test_params(self):
        self.fault_is(0, "abcdefghi", "Size", "a1", "a_b", "size+1", "size,", "\xe4")
        for word in KEPT:
            if word not in ("inner", "none", "if", "ask", "fail"):
                self.fault_is(0, word, word + " + 1")
        for word in KEPT:
            if word not in ("inner", "not", "both", "either", "unanswered"):
                self.fault_is(1, f"if {word} <= 3 then 1 else 2", f"if {word} is 'a then 1 else 2")
            self.fault_is(2, f"ask with {word} = 3 giving none")
            self.fault_is(6, f"ask with a = 1 , {word} = 3 giving none")
        self.fault_is(1, "none + 1")
        self.fault_is(1, "if abcdefghi <= 3 then 1 else 2")
        self.fault_is(
            2, "ask with abcdefghi = 3 giving none", "ask with 'a = 3 giving none", "ask with 5 = 3 giving none",
        )

    def test_tests(self):
        self.fault_is(
            1, "if 5 <= 3 then 1 else 2", "if none then 1 else 2", "if 'a is 'a then 1 else 2", "if then 1 else 2",
        )
        self.fault_is(
            2, "if size then 1 else 2", "if size = 3 then 1 else 2", "if size >= 3 then 1 else 2", "if size + 1 <= 3",
        )
        self.fault_is(
            2, "if not 5", "if not then", "if both and", "if either or", "if unanswered and", "if unanswered <= 3",
        )
        self.fault_is(4, "if both unanswered and and", "if both unanswered and then")
        self.fault_is(
            3, "if both unanswered or unanswered", "if either unanswered and unanswered", "if both unanswered then",
        )
        self.fault_is(4, "if size <= 3 and size <= 4 then 1 else 2", "if size <= 3 , then", "if size <= 3 else 1")
        self.fault_is(0, "not size <= 3", "unanswered", "both size <= 3 and size <= 4", "either")
        self.fault_is(1, "size <= 3", "mode is 'red", "inner <= 3")
        self.fault_is(
            6, "if size <= 3 then 1 then 2", "if size <= 3 then 1 failing 2", "if size <= 3 then 1 , 2",
            "if size <= 3 then a <= 3",
        )

    def test_where_ask_may_stand(self):
        self.fault_is(None, "ask giving 1", "if size <= 3 then ask giving 1 else ask giving 2")
        self.fault_is(None, "if unanswered then if unanswered then ask giving 1 else 2 else ask giving 3 failing 4")
        self.fault_is(2, "ask giving ask giving 1")
        self.fault_is(4, "ask giving 1 failing ask giving 1", "ask with size = ask giving 1 giving 1")
        self.fault_is(5, "ask giving if unanswered then ask giving 1 else 2")
        self.fault_is(
            7, "ask giving if unanswered then 1 else ask giving 1", "ask with a = if unanswered then ask giving",
        )
        self.fault_is(7, "ask giving 1 failing if unanswered then ask giving 1 else 2")
        self.fault_is(1, "if ask giving 1 then 1 else 2")

    def test_forms_of_ask(self):
        self.fault_is(1, "ask", "ask 5", "ask inner", "ask failing 5", "ask size = 1 giving 1", "ask , size = 1 giving 1")
        self.fault_is(
            2, "ask with giving 1", "ask with , size = 1 giving 1", "ask with", "ask giving", "ask giving failing 1",
        )
        self.fault_is(
            3, "ask with size 1 giving 1", "ask with size <= 1 giving 1", "ask with size", "ask with size , mode",
        )
        self.fault_is(4, "ask with size = giving 1", "ask with size = , mode = 1 giving 1", "ask with size =")
        self.fault_is(
            5, "ask with size = 1", "ask with size = 1 failing 1", "ask with size = 1 with mode = 1",
            "ask with size = 1 2",
        )
        self.fault_is(6, "ask with size = 1 , giving 1", "ask with size = 1 , , mode = 1 giving 1", "ask with size = 1 ,")
        self.fault_is(3, "ask giving 1 giving 1", "ask giving 1 , 2", "ask giving 1 with size = 1", "ask giving 1 else 2")
        self.fault_is(5, "ask giving 1 failing 2 failing 3", "ask giving 1 failing 2 giving 3")
        self.fault_is(4, "ask giving 1 failing", "ask giving 1 failing failing")
        self.fault_is(4, "ask with size = a, mode = 1 giving 1")

    def test_none_and_fail_in_sends(self):
        self.fault_is(
            4, "ask with size = none giving 1", "ask with size = fail red giving 1",
            "ask with size = none , mode = 1",
        )
        self.fault_is(8, "ask with size = 1 , mode = none giving 1", "ask with size = 1 , mode = fail red giving 1")
        self.fault_is(
            7, "ask with size = if unanswered then none else 1 giving 1", "ask with a = if unanswered then fail",
        )
        self.fault_is(
            9, "ask with size = if unanswered then 1 else none giving 1",
            "ask with a = if unanswered then 1 else fail a",
        )
        self.fault_is(10, "ask with a = if unanswered then if unanswered then none")
        self.fault_is(
            None, "ask with size = 'none giving none failing none", "ask with a = 1 giving fail a failing fail b",
        )
        self.fault_is(None, "ask with a = if b is 'none then 'fail else 'none giving if unanswered then none else fail a")
        self.fault_is(None, "if unanswered then ask with a = 1 giving none else none")

    def test_words_behind_the_end(self):
        behind = ["then", "else", "and", "or", "giving", "5", "'red", "red", "none", ",", "=", "", "if", "is", "<="]
        for text, _ in TEXTS:
            words = text.split(" ")
            for word in behind:
                self.fault_is(len(words), f"{text} {word}", f"{text} {word} 5 5")

    def test_the_first_word_that_cannot_follow_is_told(self):
        self.fault_is(1, "if 5 <= red then ask giving")
        self.fault_is(0, "then 5 <= red")

    def test_long_words(self):
        self.fault_is(0, "abcdefghijkl", "'abcdefghijk", "123456789012", "unanswered")
        self.fault_is(1, "if abcdefghijkl")

    def test_deep_texts(self):
        for many in (1, 7, 392):
            text = "if " + "not " * many + "size <= 3 then 1 else 2"
            self.assertEqual(show_body(read_body(text)), text)
            self.fault_is(many + 3, "if " + "not " * many + "size <= red then 1 else 2")
            self.fault_is(many + 1, "if " + "not " * many + "none")
            self.fault_is(many + 1, "if" + " not" * many)
        body = read_body("if " + "not " * 392 + "size <= 3 then 1 else 2")[1]
        for _ in range(392):
            self.assertEqual((body[0], len(body)), ("not", 2))
            body = body[1]
        self.assertEqual(body, SIZE)

    def test_very_deep_texts(self):
        many = 5000
        for text in [
            "if " + "not " * many + "size <= 3 then 1 else 2",
            "if size <= 3 then " * many + "1" + " else 2" * many,
            "if size <= 3 then 1 else " * many + "2",
            "if " + "both unanswered and " * many + "unanswered then 1 else 2",
            "if " + "either " * many + "unanswered" + " or unanswered" * many + " then 1 else 2",
            "if size <= 3 then ask giving 1 else " * many + "ask with a = 1 giving 2 failing 3",
            "ask with a = " + "if size <= 3 then " * many + "1" + " else 2" * many + " giving 5",
            "ask with a = 1" + " , a = 1" * many + " giving 5",
        ]:
            self.assertEqual(show_body(read_body(text)), text)
            self.fault_is(len(text.split(" ")), text + " then")
            self.fault_is(len(text.split(" ")) - 1, re.sub(" [^ ]*$", "", text))

    def test_read_like_the_grammar_word_by_word(self):
        """Every start of a text up to some length, with every word behind it."""
        vocabulary = [*KEPT, *SIGNS, "5", "-5", "0", "-0", "a", "'a", ""]
        starts = [[]]
        for _ in range(4):
            followed = []
            for start in starts:
                for word in vocabulary:
                    words = [*start, word]
                    text = " ".join(words)
                    expected = first_fault(text)
                    self.assertEqual(fault(text), expected, text)
                    if expected is None or expected == len(words):
                        followed.append(words)
            starts = followed

    def test_read_like_the_grammar_by_chance(self):
        rng = random.Random(9)
        vocabulary = [*KEPT, *SIGNS, "5", "-5", "0", "-0", "a", "'a", "", "'if", "abcdefghi", "1234567890", "+1"]
        refused = 0
        for _ in range(3000):
            hook = rng.choice([SHADE, TRIM, BOTH])
            words = show_body(Maker(hook, rng).body(rng.random() < 0.8, rng.randrange(4))).split(" ")[:40]
            for _ in range(rng.randrange(1, 3)):
                at = rng.randrange(len(words) + 1)
                words[at:at + rng.randrange(2)] = rng.choices(vocabulary, k=rng.randrange(2))
            text = " ".join(words)
            expected = first_fault(text)
            self.assertEqual(fault(text), expected, text)
            refused += expected is not None
        self.assertGreater(refused, 1000)


if __name__ == "__main__":
    unittest.main()
