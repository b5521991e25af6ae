"""Bodies of parts: whether a thing is one, the trees directly inside a tree, and how many there are."""

from hookrow.errors import InvalidBody
from hookrow.words import is_integer, is_name

_TESTS = ("most", "is", "not", "both", "either", "lacks")

_LENGTHS = {
    "number": 2, "word": 2, "none": 1, "param": 2, "plus": 3, "fail": 2, "if": 4,
    "most": 3, "is": 3, "not": 2, "both": 3, "either": 3, "lacks": 1, "ask": 4,
}

# How many trees follow the first item; `ask` is not here, since what is inside it is less regular.
_BRANCHES = {"if": 3, "not": 1, "both": 2, "either": 2}

# What may stand in a place depends on its role: "test"; "whole" for an expression where `ask` may stand;
# "part" for one where it may not; "sent" for one that always has an answer, of the sort of a parameter.
# So a place is a tuple of its role, the sort of its expressions (None for tests) and whether it knows `inner`.


def check_body(hook, body, *, wraps=False):
    """True if a thing is a body of a plain part, or of a wrapper, for a hook; else raises `InvalidBody`."""
    sorts = {name: sort for name, sort, _ in hook.params + hook.only}
    # A list of what is to come, not recursion, since nothing limits how deep a thing nests that is no body.
    todo = [((), body, ("whole" if wraps else "part", hook.gives, False))]
    while todo:
        path, tree, place = todo.pop()
        word = _fault(tree, place, _known(hook, sorts, place))
        if word is not None:
            raise InvalidBody(word, path)
        for below, subtree in reversed(list(children(tree))):
            todo.append((path + below, subtree, _place_below(tree, below, place, sorts)))
    return True


def children(tree):
    """The pairs of path and tree for the trees directly inside a tree, ascending by path."""
    if tree[0] == "ask":
        return _children_of_ask(tree)
    return tuple([((at,), tree[at]) for at in range(1, 1 + _BRANCHES.get(tree[0], 0))])


def count(tree):
    """The number of trees in a tree, itself included."""
    number = 0
    todo = [tree]
    while todo:
        top = todo.pop()
        number = number + 1
        for _, subtree in children(top):
            todo.append(subtree)
    return number


def _children_of_ask(tree):
    _, sends, answered, failed = tree
    found = [((1, at, 1), pair[1]) for at, pair in enumerate(sends)]
    found.append(((2,), answered))
    if failed is not None:
        found.append(((3,), failed))
    return tuple(found)


def _place_below(tree, below, place, sorts):
    """The place of the tree at a path directly inside a tree that is itself right in its place."""
    kind = tree[0]
    if kind == "ask" and below[0] == 1:
        name = tree[1][below[1]][0]
        return ("sent", sorts[name], False)
    if kind == "ask":
        return ("part", place[1], below[0] == 2)
    if kind == "if" and below[0] > 1:
        return place
    return ("test", None, place[2])


def _known(hook, sorts, place):
    """The sorts of the names that a tree in a place may speak of."""
    if place[2]:
        return {**sorts, "inner": hook.gives}
    return sorts


def _fault(tree, place, sorts):
    """The first word that fits what is wrong with a tree, apart from the trees inside it, or None."""
    if not _has_form(tree, place):
        return "form"
    names = _names_in(tree)
    for name in names:
        if not isinstance(name, str) or name not in sorts:
            return "param"
    if tree[0] == "ask":
        return "twice" if len(set(names)) < len(names) else None
    return None if _fits_sort(tree, place[1], sorts) else "sort"


def _has_form(tree, place):
    """Whether a thing has one of the forms that may stand in a place, apart from the trees inside it."""
    if not isinstance(tree, tuple) or not tree or not isinstance(tree[0], str):
        return False
    return len(tree) == _LENGTHS.get(tree[0], 0) and _may_stand(tree[0], place) and _has_items(tree)


def _may_stand(kind, place):
    role, _, inner = place
    if role == "test":
        return kind in _TESTS and (inner or kind != "lacks")
    if kind == "ask":
        return role == "whole"
    if kind in ("none", "fail"):
        return role != "sent"
    return kind not in _TESTS


def _has_items(tree):
    """Whether the integer, the word or the sends of a tree of the right length are such."""
    kind = tree[0]
    if kind == "number":
        return is_integer(tree[1])
    if kind in ("word", "fail"):
        return is_name(tree[1])
    if kind in ("plus", "most"):
        return is_integer(tree[2])
    if kind == "is":
        return is_name(tree[2])
    if kind == "ask":
        return isinstance(tree[1], tuple) and all([_is_pair(pair) for pair in tree[1]])
    return True


def _is_pair(thing):
    return isinstance(thing, tuple) and len(thing) == 2


def _names_in(tree):
    """What stands in a tree where it has the names of parameters."""
    if tree[0] == "ask":
        return [pair[0] for pair in tree[1]]
    if tree[0] in ("param", "plus", "most", "is"):
        return [tree[1]]
    return []


def _fits_sort(tree, sort, sorts):
    """Whether the name in a tree has the sort that the tree needs, and the tree the sort of its place."""
    kind = tree[0]
    if kind == "param":
        return sorts[tree[1]] == sort
    if kind == "plus":
        return sorts[tree[1]] == "number" and sort == "number"
    if kind == "most":
        return sorts[tree[1]] == "number"
    if kind == "is":
        return sorts[tree[1]] == "word"
    if kind in ("number", "word"):
        return kind == sort
    return True
