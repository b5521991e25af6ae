"""Bounds of one parameter: pairs `(low, high)` for numbers, `(words, inside)` for words, as in sets of calls."""

from hookrow.words import is_integer, is_name

_LETTERS = "abcdefghijklmnopqrstuvwxyz"


def unbounded(sort):
    """The bound that all values of a sort are within."""
    if sort == "number":
        return (None, None)
    return ((), False)


def is_bound(thing, sort):
    """Whether a thing has the form of a bound of a sort."""
    if not isinstance(thing, tuple) or len(thing) != 2:
        return False
    first, second = thing
    if sort == "number":
        return _is_end(first) and _is_end(second)
    if not isinstance(first, (list, tuple)) or not isinstance(second, bool):
        return False
    return all([is_name(word) for word in first])


def normal(bound):
    """The bound with its words as a tuple, ascending and without duplicates."""
    if _is_of_words(bound):
        return (tuple(sorted(set(bound[0]))), bound[1])
    return (bound[0], bound[1])


def has_value(bound, value):
    """Whether a value is within a bound."""
    if _is_of_words(bound):
        return (value in bound[0]) == bound[1]
    low, high = bound
    return (low is None or low <= value) and (high is None or value <= high)


def is_void(bound):
    """Whether no value is within a bound. (There are more words than any tuple leaves out.)"""
    first, second = bound
    if _is_of_words(bound):
        return second and len(first) == 0
    return first is not None and second is not None and first > second


def only_value(bound):
    """The value within a bound if there is just one, else None."""
    first, second = bound
    if _is_of_words(bound):
        return first[0] if second and len(first) == 1 else None
    return first if first == second else None


def common(one, other):
    """The bound of the values that are within two bounds in normal form."""
    if not _is_of_words(one):
        lows = [low for low in (one[0], other[0]) if low is not None]
        highs = [high for high in (one[1], other[1]) if high is not None]
        return (max(lows, default=None), min(highs, default=None))
    if not one[1] and not other[1]:
        return (tuple(sorted(set(one[0] + other[0]))), False)
    inside, beside = (one, other) if one[1] else (other, one)
    return (tuple([word for word in inside[0] if has_value(beside, word)]), True)


def beyond(bound):
    """The bounds of the values that are not within a bound: for numbers those below it, then those above it."""
    first, second = bound
    if _is_of_words(bound):
        return [(first, not second)]
    found = []
    if first is not None:
        found.append((None, first - 1))
    if second is not None:
        found.append((second + 1, None))
    return found


def all_within(one, other):
    """Whether each value within a bound is within another one."""
    return all([is_void(common(one, part)) for part in beyond(other)])


def first_values(bound, many):
    """The first values within a bound that is not void, as many as are told or all that there are.

    Integers come in the order 0, 1, -1, 2, -2 and so on, words by length, then alphabetically.
    """
    if not _is_of_words(bound):
        return _first_numbers(bound, many)
    words, inside = bound
    if not inside:
        return _first_words_beside(words, many)
    ranked = sorted([(len(word), word) for word in words])
    return [pair[1] for pair in ranked[:many]]


def _is_end(thing):
    return thing is None or is_integer(thing)


def _is_of_words(bound):
    """Whether a bound is one of words: ends of numbers are never booleans."""
    return isinstance(bound[1], bool)


def _first_numbers(bound, many):
    nearest = _nearest_to_zero(bound)
    found = [nearest]
    for distance in range(1, many):
        for number in (nearest + distance, nearest - distance):
            if has_value(bound, number):
                found.append(number)
    return found[:many]


def _nearest_to_zero(bound):
    low, high = bound
    if low is not None and low > 0:
        return low
    if high is not None and high < 0:
        return high
    return 0


def _first_words_beside(words, many):
    """The first words that are none of these."""
    left_out = {word: True for word in words}
    found = []
    index = 0
    while len(found) < many:
        word = _word_at(index)
        if word not in left_out:
            found.append(word)
        index = index + 1
    return found


def _word_at(index):
    """The word with an index among all words, by length, then alphabetically."""
    word = ""
    rest = index + 1
    while rest > 0:
        word = _LETTERS[(rest - 1) % len(_LETTERS)] + word
        rest = (rest - 1) // len(_LETTERS)
    return word
