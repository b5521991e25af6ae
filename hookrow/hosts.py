"""Hosts: hooks, and plugins that come and go."""

from hookrow.bodies import check_body
from hookrow.errors import CallFailed, InvalidPlugin, NoHook, NoKept, NoPlugin, Taken
from hookrow.results import results
from hookrow.running import run
from hookrow.scenes import parts_of
from hookrow.terms import Failure
from hookrow.wishes import row_of

_MOST_PARTS = 5


class Host:
    """Hooks with different names, and the plugins that deeds bring and take away.

    What a host holds is never changed in place: a deed puts new dicts and tuples in the place of the old ones. So a
    deed, and a trial, can keep what was there before it.
    """

    def __init__(self, hooks):
        self._hooks = {hook.name: hook for hook in hooks}
        # The plugins by name, the eldest first.
        self._plugins = {}
        # The deeds that were not taken back, each with the plugins ahead of it.
        self._deeds = ()
        self._kept = ()
        self._changed = ()

    @property
    def hooks(self):
        """The names of the hooks, ascending."""
        return tuple(sorted(self._hooks))

    @property
    def by_age(self):
        """The names of the plugins, the eldest first."""
        return tuple(self._plugins)

    @property
    def changed(self):
        """The indexes of the kept calls of which the last deed or `undo` changed the results."""
        return self._changed

    def hook_of(self, name):
        """The hook with a name."""
        if name not in self._hooks:
            raise NoHook(name)
        return self._hooks[name]

    def row(self, hook):
        """The row of the parts of a hook."""
        self.hook_of(hook)
        return row_of(parts_of(self, hook))

    def add(self, plugin):
        """Adds a plugin as the youngest one."""
        self._check_free(plugin.name)
        self._check_parts(plugin)
        self._do(("add", plugin), self._with(plugin))

    def drop(self, name):
        """Removes a plugin."""
        self._check_known(name)
        self._do(("drop", name), self._without(name))

    def undo(self):
        """Takes back the last deed; returns whether there was one."""
        if not self._deeds:
            return False
        _, plugins = self._deeds[-1]
        self._turn_to(plugins, self._deeds[:-1])
        return True

    def log(self):
        """The deeds that were not taken back, the first one first."""
        return [deed for deed, _ in self._deeds]

    def call(self, hook, *args, **named):
        """The result of a call in the own order of the hook's row."""
        call = self.hook_of(hook).bind(args, named)
        result = run(self, hook, call)
        if isinstance(result, Failure):
            raise CallFailed(result.word, result.plugin)
        return result

    def keep(self, hook, call):
        """Keeps a call, and returns its index."""
        self.hook_of(hook)
        self._kept = (*self._kept, (hook, dict(call)))
        return len(self._kept) - 1

    def kept(self, index):
        """The different results of a kept call, or None if the row has a ring."""
        if index < 0 or index >= len(self._kept):
            raise NoKept(index)
        hook, call = self._kept[index]
        if self.row(hook).ring is not None:
            return None
        return tuple([result for result, _, _ in results(self, hook, call)])

    def trial(self):
        """Something for a `with` statement, behind which all is as it was ahead of it."""
        return Trial(self)

    def in_trial(self, work):
        """What a function returns that is called with the host in a trial."""
        with self.trial() as host:
            return work(host)

    def __getitem__(self, name):
        self._check_known(name)
        return self._plugins[name]

    def __setitem__(self, name, plugin):
        self._check_parts(plugin)
        self._do(("put", name, plugin), self._with(plugin))

    def __contains__(self, name):
        return name in self._plugins

    def __len__(self):
        return len(self._plugins)

    def __iter__(self):
        return iter(self._plugins)

    def __add__(self, plugin):
        self._check_free(plugin.name)
        self._check_parts(plugin)
        return self._new_host(self._with(plugin))

    def __sub__(self, name):
        self._check_known(name)
        return self._new_host(self._without(name))

    def __iadd__(self, plugin):
        self.add(plugin)
        return self

    def __isub__(self, name):
        self.drop(name)
        return self

    def __eq__(self, other):
        return (
            isinstance(other, Host) and self._hooks == other._hooks
            and list(self._plugins.values()) == list(other._plugins.values())
        )

    def _check_free(self, name):
        if name in self._plugins:
            raise Taken(name)

    def _check_known(self, name):
        if name not in self._plugins:
            raise NoPlugin(name)

    def _check_parts(self, plugin):
        """Raises the error for the first violation by the parts of a plugin that is to come."""
        for part in plugin.parts:
            hook = self.hook_of(part.hook)
            if part.wraps and hook.kind == "each":
                raise InvalidPlugin("wraps", part.hook)
            check_body(hook, part.body, wraps=part.wraps)
            beside = [name for name in parts_of(self, part.hook) if name != plugin.name]
            if len(beside) >= _MOST_PARTS:
                raise InvalidPlugin("many", part.hook)

    def _with(self, plugin):
        """The plugins with one more, or with one in the place of that of its name."""
        return {**self._plugins, plugin.name: plugin}

    def _without(self, name):
        """The plugins without one."""
        return {each: plugin for each, plugin in self._plugins.items() if each != name}

    def _new_host(self, plugins):
        """A host with the same hooks and these plugins."""
        host = Host(list(self._hooks.values()))
        host._plugins = plugins
        return host

    def _do(self, deed, plugins):
        """Does a deed after which there are these plugins."""
        self._turn_to(plugins, (*self._deeds, (deed, self._plugins)))

    def _turn_to(self, plugins, deeds):
        """Puts plugins and deeds in the place of those that are there, and looks at the kept calls again."""
        before = [self.kept(index) for index in range(len(self._kept))]
        self._plugins = plugins
        self._deeds = deeds
        self._changed = tuple([
            index for index, told in enumerate(before) if not _have_same(told, self.kept(index))
        ])


class Trial:
    """A block behind which a host is as it was ahead of it."""

    def __init__(self, host):
        self._host = host

    def __enter__(self):
        host = self._host
        self._plugins = host._plugins
        self._deeds = host._deeds
        self._kept = host._kept
        self._changed = host._changed
        return host

    def __exit__(self, kind, value, trace):
        host = self._host
        host._plugins = self._plugins
        host._deeds = self._deeds
        host._kept = self._kept
        host._changed = self._changed


def _have_same(one, other):
    """Whether two tuples of different results have the same ones; None stands for a ring."""
    if one is None or other is None:
        return one is None and other is None
    return len(one) == len(other) and all([result in other for result in one])
