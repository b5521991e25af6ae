"""Reading the texts of plugins."""

from hookrow.bodytexts import read_body
from hookrow.errors import InvalidText
from hookrow.plugins import Part, Plugin, is_plugin_name
from hookrow.words import is_name


def read_plugin(text):
    """The plugin with a text; raises `InvalidText` with the index of the first line that cannot stand there."""
    lines = text.split("\n")
    name = _name_in(lines[0].split(" "))
    if name is None:
        raise InvalidText(0)
    parts = []
    for at in range(1, len(lines), 2):
        told = _wishes_in(lines[at].split(" "), name)
        if told is None or parts and told[0] <= parts[-1].hook:
            raise InvalidText(at)
        if at + 1 == len(lines):
            raise InvalidText(at + 1)
        hook, wraps, layer, before, after = told
        body = _body_in(lines[at + 1], at + 1)
        parts.append(Part(hook, body, before=before, after=after, layer=layer, wraps=wraps))
    return Plugin(name, parts)


def _name_in(words):
    """The name of a plugin that the first line tells, or None."""
    if len(words) == 2 and words[0] == "plugin" and is_plugin_name(words[1]):
        return words[1]
    return None


def _wishes_in(words, own):
    """What the line ahead of a body tells: hook, wraps, layer, before and after; None if it cannot stand there."""
    if words[0] != "on" or len(words) < 2 or not is_name(words[1]):
        return None
    rest = words[2:]
    wraps = rest[:1] == ["wraps"]
    if wraps:
        rest = rest[1:]
    layer = "middle"
    if rest and rest[0] in ("early", "late"):
        layer = rest[0]
        rest = rest[1:]
    before, rest = _names_behind("before", rest)
    after, rest = _names_behind("after", rest)
    if rest or not _are_wishes(before, own) or not _are_wishes(after, own):
        return None
    return (words[1], wraps, layer, before, after)


def _names_behind(word, words):
    """The plugin names behind a word at the beginning, and the words that are left."""
    names = []
    if words[:1] == [word]:
        for name in words[1:]:
            if not is_plugin_name(name):
                break
            names.append(name)
    # A word without names behind it is left, and so the line is refused.
    return (names, words[1 + len(names):]) if names else (names, words)


def _are_wishes(names, own):
    """Whether names are ascending, each once, and none of them is the name of the plugin itself."""
    return names == sorted(set(names)) and own not in names


def _body_in(line, at):
    """The body with the text that is the line with an index."""
    try:
        return read_body(line)
    except InvalidText:
        raise InvalidText(at) from None
