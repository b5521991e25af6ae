"""Which part of a hook stands before which: the row of the parts."""

from hookrow.plugins import LAYERS
from hookrow.rows import Row


def row_of(parts):
    """The row of the parts of a hook, a dict by the names of their plugins, the eldest first."""
    names = list(parts)
    pairs = [
        (one, other) for one in names for other in names
        if one != other and _is_directly_ahead(one, parts[one], other, parts[other])
    ]
    return Row(names, pairs)


def _is_directly_ahead(one, part, other, behind):
    """Whether the part of the plugin `one` is directly ahead of the part `behind` of the plugin `other`."""
    return _stands_ahead(part, behind) or other in part.before or one in behind.after


def _stands_ahead(part, behind):
    """Whether a part is ahead of another one by what both are, whatever they wish."""
    if part.wraps != behind.wraps:
        return part.wraps
    return LAYERS.index(part.layer) < LAYERS.index(behind.layer)
