"""Plugins, and their parts for hooks."""

from hookrow.bodytexts import show_body
from hookrow.errors import InvalidPlugin
from hookrow.words import is_name

LAYERS = ("early", "middle", "late")

# Names that would be taken for something else in the text of a plugin.
_NO_PLUGIN_NAMES = ("before", "after", "early", "late", "wraps")


class Part:
    """What a plugin has for one hook: a body, and wishes about its place in the order."""

    def __init__(self, hook, body, *, before=(), after=(), layer="middle", wraps=False):
        word = _fault_of_part(hook, before, after, layer, wraps)
        if word is not None:
            raise InvalidPlugin(word, hook)
        self.hook = hook
        self.body = body
        self.before = tuple(sorted(set(before)))
        self.after = tuple(sorted(set(after)))
        self.layer = layer
        self.wraps = wraps

    def __eq__(self, other):
        return (
            isinstance(other, Part) and self.hook == other.hook and self.body == other.body
            and self.before == other.before and self.after == other.after
            and self.layer == other.layer and self.wraps == other.wraps
        )


class Plugin:
    """A name, and parts for different hooks, ascending by these."""

    def __init__(self, name, parts):
        if not is_plugin_name(name):
            raise InvalidPlugin("name", name)
        _check_parts(name, parts)
        self.name = name
        self.parts = tuple(sorted(parts, key=lambda part: part.hook))

    def part(self, hook):
        """The part for a hook, or None."""
        for part in self.parts:
            if part.hook == hook:
                return part
        return None

    def __eq__(self, other):
        return isinstance(other, Plugin) and self.name == other.name and self.parts == other.parts

    def __str__(self):
        lines = [f"plugin {self.name}"]
        for part in self.parts:
            lines.append(_shown_wishes(part))
            lines.append(show_body(part.body))
        return "\n".join(lines)


def is_plugin_name(thing):
    """Whether a thing is a plugin name."""
    return is_name(thing) and thing not in _NO_PLUGIN_NAMES


def _fault_of_part(hook, before, after, layer, wraps):
    """The word for the first violation by what a part is made of, or None."""
    if not is_name(hook):
        return "hook"
    if not _are_plugin_names(before):
        return "before"
    if not _are_plugin_names(after):
        return "after"
    if not isinstance(layer, str) or layer not in LAYERS:
        return "layer"
    return None if isinstance(wraps, bool) else "wraps"


def _are_plugin_names(things):
    return isinstance(things, (list, tuple)) and all([is_plugin_name(thing) for thing in things])


def _check_parts(name, parts):
    """Raises the error for the first violation by the parts of the plugin with a name, if there is one."""
    hooks = [part.hook for part in parts]
    for at, hook in enumerate(hooks):
        if hook in hooks[:at]:
            raise InvalidPlugin("twice", hook)
    for part in parts:
        if name in part.before + part.after:
            raise InvalidPlugin("itself", part.hook)


def _shown_wishes(part):
    """The line of the text that tells all of a part but its body."""
    words = ["on", part.hook]
    if part.wraps:
        words.append("wraps")
    if part.layer != "middle":
        words.append(part.layer)
    if part.before:
        words.extend(["before", *part.before])
    if part.after:
        words.extend(["after", *part.after])
    return " ".join(words)
