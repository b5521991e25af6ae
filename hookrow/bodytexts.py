"""Texts of bodies: written from a body, and read."""

from hookrow.errors import InvalidText
from hookrow.words import KEPT, is_name, shown_value

_MOST_DIGITS = 9


def show_body(body):
    """The text of a body."""
    shown = []
    # A list of what is to come, not recursion, since bodies that are only shown may nest deep.
    todo = [body]
    while todo:
        piece = todo.pop()
        if isinstance(piece, str):
            shown.append(piece)
        else:
            for inside in reversed(list(_pieces(piece))):
                todo.append(inside)
    return " ".join(shown)


def read_body(text):
    """The body with a text; raises `InvalidText` with the index of the first word that cannot stand there."""
    reader = Reader(text.split(" "))
    return reader.read()


def _pieces(tree):
    """The words of a tree, with the trees inside it in their places."""
    kind = tree[0]
    if kind in ("number", "word"):
        return [shown_value(tree[1])]
    if kind == "none":
        return ["none"]
    if kind == "lacks":
        return ["unanswered"]
    if kind == "param":
        return [tree[1]]
    if kind == "plus":
        return [tree[1], "-" if tree[2] < 0 else "+", str(abs(tree[2]))]
    if kind == "most":
        return [tree[1], "<=", str(tree[2])]
    if kind == "is":
        return [tree[1], "is", shown_value(tree[2])]
    if kind == "if":
        return ["if", tree[1], "then", tree[2], "else", tree[3]]
    if kind == "both":
        return ["both", tree[1], "and", tree[2]]
    if kind == "either":
        return ["either", tree[1], "or", tree[2]]
    if kind == "ask":
        return _pieces_of_ask(tree)
    return [kind, tree[1]]


def _pieces_of_ask(tree):
    _, sends, answered, failed = tree
    pieces = ["ask"]
    for at, pair in enumerate(sends):
        pieces.append("," if at > 0 else "with")
        pieces.extend([pair[0], "=", pair[1]])
    pieces.extend(["giving", answered])
    if failed is not None:
        pieces.extend(["failing", failed])
    return pieces


class Reader:
    """Reads one body from its words.

    No word needs a look at the one behind it, so the first word that is refused is the first that cannot follow.
    Texts may nest deep: what is still to be read waits in a list of steps, the next one last, and
    the trees that are read wait in another one for the tree around them.
    """

    def __init__(self, words):
        self.words = words
        self.at = 0
        self.steps = [("expression", "whole")]
        self.trees = []

    def read(self):
        """The body, if its text ends where the words end."""
        while self.steps:
            step, told = self.steps.pop()
            self.take_step(step, told)
        if self.at < len(self.words):
            raise InvalidText(self.at)
        return self.trees[0]

    def take_step(self, step, told):
        """Reads what a step is about, and puts the steps in the list that follow from it."""
        if step == "expression":
            self.read_expression(told)
        elif step == "test":
            self.read_test()
        elif step == "say":
            self.expect(told)
        elif step == "sends":
            self.read_sends(told)
        elif step == "pair":
            self.trees.append((told, self.trees.pop()))
        elif step == "failing":
            self.read_failing()
        else:
            self.put_together((step,), told)

    def read_expression(self, role):
        """An expression; its role is "whole" where `ask` may stand, "sent" where `none` and `fail` may not."""
        word = self.present()
        if _is_number(word):
            self.leaf(("number", int(word)))
        elif _is_quoted(word):
            self.leaf(("word", word[1:]))
        elif _is_param(word):
            self.read_param(word)
        elif word == "if":
            self.pass_by()
            branch = ("expression", role)
            self.plan([("test", None), ("say", "then"), branch, ("say", "else"), branch, ("if", 3)])
        elif word == "none" and role != "sent":
            self.leaf(("none",))
        elif word == "fail" and role != "sent":
            self.pass_by()
            self.trees.append(("fail", self.expect_name()))
        elif word == "ask" and role == "whole":
            self.pass_by()
            self.plan([("sends", 0)])
        else:
            raise InvalidText(self.at)

    def read_param(self, name):
        """The value of a parameter, or what is said to be added to it."""
        self.pass_by()
        sign = self.present()
        if sign not in ("+", "-"):
            self.trees.append(("param", name))
            return
        self.pass_by()
        digits = self.present()
        if not _is_digits(digits) or sign == "-" and digits == "0":
            raise InvalidText(self.at)
        self.leaf(("plus", name, int(digits) if sign == "+" else -int(digits)))

    def read_test(self):
        """A test."""
        word = self.present()
        if not _is_param(word) and word not in ("not", "both", "either", "unanswered"):
            raise InvalidText(self.at)
        self.pass_by()
        if word == "unanswered":
            self.trees.append(("lacks",))
        elif word == "not":
            self.plan([("test", None), ("not", 1)])
        elif word == "both":
            self.plan([("test", None), ("say", "and"), ("test", None), ("both", 2)])
        elif word == "either":
            self.plan([("test", None), ("say", "or"), ("test", None), ("either", 2)])
        else:
            self.read_comparison(word)

    def read_comparison(self, name):
        """What is asked about a parameter."""
        sign = self.present()
        if sign not in ("<=", "is"):
            raise InvalidText(self.at)
        self.pass_by()
        word = self.present()
        if sign == "<=" and _is_number(word):
            self.leaf(("most", name, int(word)))
        elif sign == "is" and _is_quoted(word):
            self.leaf(("is", name, word[1:]))
        else:
            raise InvalidText(self.at)

    def read_sends(self, many):
        """One more pair of an `ask`, or its `giving`, behind `many` pairs."""
        if self.present() == "giving":
            self.pass_by()
            self.put_together((), many)
            self.plan([("expression", "part"), ("failing", None)])
            return
        self.expect("," if many > 0 else "with")
        if self.present() in KEPT:
            raise InvalidText(self.at)
        name = self.expect_name()
        self.expect("=")
        self.plan([("expression", "sent"), ("pair", name), ("sends", many + 1)])

    def read_failing(self):
        """What an `ask` gives if what is inside fails, where its text tells."""
        if self.present() == "failing":
            self.pass_by()
            self.plan([("expression", "part"), ("ask", 3)])
        else:
            self.trees.append(None)
            self.plan([("ask", 3)])

    def present(self):
        """The next word. An empty one, which no text has, stands for the end of the words."""
        if self.at < len(self.words):
            return self.words[self.at]
        return ""

    def pass_by(self):
        self.at = self.at + 1

    def expect(self, word):
        if self.present() != word:
            raise InvalidText(self.at)
        self.pass_by()

    def expect_name(self):
        name = self.present()
        if not is_name(name):
            raise InvalidText(self.at)
        self.pass_by()
        return name

    def leaf(self, tree):
        """Puts a tree in the list that ends with the next word."""
        self.pass_by()
        self.trees.append(tree)

    def plan(self, steps):
        """Puts steps in the list, the first one to be taken next."""
        for step in reversed(list(steps)):
            self.steps.append(step)

    def put_together(self, front, many):
        """Makes one tuple of some first items and as many trees as are told, those that were read last."""
        start = len(self.trees) - many
        tree = (*front, *self.trees[start:])
        del self.trees[start:]
        self.trees.append(tree)


def _is_number(word):
    if word.startswith("-"):
        return word != "-0" and _is_digits(word[1:])
    return _is_digits(word)


def _is_digits(word):
    if not word.isascii() or not word.isdigit() or len(word) > _MOST_DIGITS:
        return False
    return word == "0" or not word.startswith("0")


def _is_quoted(word):
    return word.startswith("'") and is_name(word[1:])


def _is_param(word):
    return is_name(word) and (word == "inner" or word not in KEPT)
