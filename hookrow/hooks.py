"""Hooks: what they are called with, and what they give."""

from hookrow.errors import BadCall, InvalidHook
from hookrow.words import KEPT, SORTS, has_sort, is_name, shown_value

_KINDS = ("first", "through", "each")
_MOST_PARAMS = 3


class Hook:
    """A hook with its parameters, as triples of a name, a sort and a default (or None)."""

    def __init__(self, name, kind, params, *, only=(), gives="number"):
        self.name = name
        self.kind = kind
        self.gives = gives
        self.params = tuple([_triple(param) for param in params])
        self.only = tuple([_triple(param) for param in only])
        self.names = tuple([param[0] for param in self.params + self.only])
        _check_hook(self)

    def bind(self, args, named):
        """The call with these values by position and by name."""
        given = _given(self, args, named)
        call = {}
        for name, _, default in self.params + self.only:
            if name not in given and default is None:
                raise BadCall("missing", name)
            call[name] = given.get(name, default)
        for name, sort, _ in self.params + self.only:
            if not has_sort(call[name], sort):
                raise BadCall("sort", name)
        return call

    def __eq__(self, other):
        return (
            isinstance(other, Hook) and self.name == other.name and self.kind == other.kind
            and self.params == other.params and self.only == other.only and self.gives == other.gives
        )

    def __str__(self):
        return f"{self.kind} {self.name}({_shown_params(self.params, self.only)}) -> {self.gives}"


def _triple(param):
    """A parameter with its default, which is None if there is none."""
    if len(param) == 2:
        return (param[0], param[1], None)
    return (param[0], param[1], param[2])


def _check_hook(hook):
    """Raises the error for the first violation, if there is one."""
    if not is_name(hook.name):
        raise InvalidHook("name", hook.name)
    if hook.kind not in _KINDS:
        raise InvalidHook("kind", hook.name)
    for at, name in enumerate(hook.names):
        word = _fault_of_param(hook, at)
        if word is not None:
            raise InvalidHook(word, name)
    if len(hook.names) > _MOST_PARAMS:
        raise InvalidHook("many", hook.name)
    if hook.kind == "through" and (not hook.params or hook.params[0][2] is not None):
        raise InvalidHook("through", hook.name)
    if hook.gives not in SORTS or hook.kind == "through" and hook.gives != hook.params[0][1]:
        raise InvalidHook("gives", hook.name)


def _fault_of_param(hook, at):
    """The word for the first violation by the parameter at an index of the names, or None."""
    name, sort, default = (hook.params + hook.only)[at]
    if not is_name(name) or name in KEPT:
        return "param"
    if name in hook.names[:at]:
        return "twice"
    if sort not in SORTS:
        return "sort"
    if default is not None:
        return None if has_sort(default, sort) else "default"
    if at < len(hook.params) and any([param[2] is not None for param in hook.params[:at]]):
        return "default"
    return None


def _given(hook, args, named):
    """The values that are passed, by their names."""
    if len(args) > len(hook.params):
        raise BadCall("many", None)
    for name in sorted(named):
        if name not in hook.names:
            raise BadCall("unknown", name)
    given = dict(named)
    for at, value in enumerate(args):
        name = hook.names[at]
        if name in named:
            raise BadCall("twice", name)
        given[name] = value
    return given


def _shown_params(params, only):
    """The text of the parameters, between the parentheses."""
    shown = [_shown_param(name, sort, default) for name, sort, default in params]
    if only:
        shown.append("*")
    for name, sort, default in only:
        shown.append(_shown_param(name, sort, default))
    return ", ".join(shown)


def _shown_param(name, sort, default):
    """The text of one parameter."""
    if default is None:
        return f"{name}: {sort}"
    return f"{name}: {sort} = {shown_value(default)}"
