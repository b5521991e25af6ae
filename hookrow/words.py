"""What the other modules share: names, integers, sorts of values, kept words."""

SORTS = ("number", "word")

KEPT = (
    "if", "then", "else", "not", "both", "and", "either", "or", "is", "none",
    "fail", "ask", "with", "giving", "failing", "inner", "unanswered",
)

_LONGEST_NAME = 8


def is_integer(thing):
    """Whether a thing is an integer; a boolean is none."""
    return isinstance(thing, int) and not isinstance(thing, bool)


def is_name(thing):
    """Whether a thing is a name, and so may be a word, too."""
    if not isinstance(thing, str) or len(thing) > _LONGEST_NAME:
        return False
    return thing.isascii() and thing.isalpha() and thing.islower()


def has_sort(thing, sort):
    """Whether a thing is a value of a sort."""
    if sort == "number":
        return is_integer(thing)
    return is_name(thing)


def shown_value(value):
    """The text of a value: words have a quote in front, so that they do not look like names."""
    if isinstance(value, str):
        return f"'{value}"
    return str(value)
