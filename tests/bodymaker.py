"""Bodies for the tests: made by chance from a seed, and the places of their trees, told without the package."""

SORTS = ("number", "word")


def sorts_of(hook):
    return {name: sort for name, sort, _ in hook.params + hook.only}


class Maker:
    """Makes bodies that are right for a hook with parameters."""

    def __init__(self, hook, rng):
        self.sorts = sorts_of(hook)
        self.gives = hook.gives
        self.rng = rng

    def body(self, wraps, deep):
        return self.whole(deep) if wraps else self.part(self.gives, deep, False)

    def names(self, sort, inner):
        found = [name for name, its in self.sorts.items() if its == sort]
        if inner and self.gives == sort:
            found.append("inner")
        return found

    def integer(self):
        return self.rng.choice([0, 1, -1, 2, 9, -17, 1000, -1000])

    def word(self):
        return self.rng.choice(["a", "red", "none", "abcdefgh", "inner", "if"])

    def answer(self, sort, inner):
        """A leaf that is always an answer of a sort."""
        made = [("number", self.integer()) if sort == "number" else ("word", self.word())]
        for name in self.names(sort, inner):
            made.append(("param", name))
            if sort == "number":
                made.append(("plus", name, self.integer()))
        return self.rng.choice(made)

    def part(self, sort, deep, inner):
        if deep > 0 and self.rng.random() < 0.5:
            branches = [self.part(sort, deep - 1, inner) for _ in range(2)]
            return ("if", self.test(deep - 1, inner), *branches)
        return self.rng.choice([self.answer(sort, inner)] * 2 + [("none",), ("fail", self.word())])

    def sent(self, sort, deep):
        if deep > 0 and self.rng.random() < 0.4:
            return ("if", self.test(deep - 1, False), self.sent(sort, deep - 1), self.sent(sort, deep - 1))
        return self.answer(sort, False)

    def whole(self, deep):
        chance = self.rng.random()
        if deep == 0 or chance < 0.2:
            return self.part(self.gives, deep, False)
        if chance < 0.5:
            return ("if", self.test(deep - 1, False), self.whole(deep - 1), self.whole(deep - 1))
        names = [name for name in self.sorts if self.rng.random() < 0.6]
        self.rng.shuffle(names)
        sends = tuple((name, self.sent(self.sorts[name], deep - 1)) for name in names)
        failing = None if self.rng.random() < 0.4 else self.part(self.gives, deep - 1, False)
        return ("ask", sends, self.part(self.gives, deep - 1, True), failing)

    def test(self, deep, inner):
        made = [("most", name, self.integer()) for name in self.names("number", inner)]
        made += [("is", name, self.word()) for name in self.names("word", inner)]
        if inner:
            made.append(("lacks",))
        if deep > 0:
            made.append(("not", self.test(deep - 1, inner)))
            made.append(("both", self.test(deep - 1, inner), self.test(deep - 1, inner)))
            made.append(("either", self.test(deep - 1, inner), self.test(deep - 1, inner)))
        return self.rng.choice(made)


def inside(tree):
    """The trees directly inside a tree with their paths."""
    kind = tree[0]
    if kind == "ask":
        found = [((1, at, 1), expression) for at, (_, expression) in enumerate(tree[1])]
        found.append(((2,), tree[2]))
        return found if tree[3] is None else found + [((3,), tree[3])]
    if kind in ("if", "not", "both", "either"):
        return [((at,), tree[at]) for at in range(1, len(tree))]
    return []


def places(hook, body, wraps):
    """All (path, tree, role, sort, inner) of a right body, ascending by path."""
    sorts = sorts_of(hook)
    found = []

    def walk(path, tree, role, sort, inner):
        found.append((path, tree, role, sort, inner))
        for below, subtree in inside(tree):
            there = path + below
            if tree[0] == "ask" and below[0] == 1:
                walk(there, subtree, "sent", sorts[tree[1][below[1]][0]], False)
            elif tree[0] == "ask":
                walk(there, subtree, "part", sort, below == (2,))
            elif tree[0] == "if" and below != (1,):
                walk(there, subtree, role, sort, inner)
            else:
                walk(there, subtree, "test", None, inner)

    walk((), body, "whole" if wraps else "part", hook.gives, False)
    return sorted(found, key=lambda place: place[0])


def planted(body, path, thing):
    """The body with a thing in the place of what stands at a path."""
    if not path:
        return thing
    at, *rest = path
    return body[:at] + (planted(body[at], tuple(rest), thing),) + body[at + 1:]
