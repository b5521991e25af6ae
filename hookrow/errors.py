"""The errors of the package; each keeps what it was made of in attributes of the same names."""


class HookError(ValueError):
    """The base class of all errors that are not about a missing key."""


class InvalidHook(HookError):
    """What a hook is made of is wrong."""

    def __init__(self, word, name):
        self.word = word
        self.name = name


class InvalidBody(HookError):
    """The tree at a path is wrong in a body."""

    def __init__(self, word, path):
        self.word = word
        self.path = path


class InvalidText(HookError):
    """The word or line with an index cannot stand where it stands in a text."""

    def __init__(self, at):
        self.at = at


class InvalidPlugin(HookError):
    """What a plugin or one of its parts is made of is wrong."""

    def __init__(self, word, hook):
        self.word = word
        self.hook = hook


class InvalidCalls(HookError):
    """The bound of a name is wrong in a set of calls."""

    def __init__(self, name):
        self.name = name


class BadCall(HookError):
    """Values do not fit the parameters of a hook."""

    def __init__(self, word, name):
        self.word = word
        self.name = name


class Barred(HookError):
    """No order keeps the row of a hook, since these plugins wait for one another."""

    def __init__(self, hook, names):
        self.hook = hook
        self.names = names


class NoOrder(HookError):
    """An order does not keep a row, as is seen at an index."""

    def __init__(self, at):
        self.at = at


class CallFailed(HookError):
    """The part of a plugin made a call fail with a word."""

    def __init__(self, word, plugin):
        self.word = word
        self.plugin = plugin


class Taken(HookError):
    """A host has a plugin of this name."""

    def __init__(self, name):
        self.name = name


class NoHook(KeyError):
    """A host has no hook of this name."""

    def __init__(self, name):
        self.name = name


class NoPlugin(KeyError):
    """A host has no plugin of this name."""

    def __init__(self, name):
        self.name = name


class NoKept(KeyError):
    """A host has no kept call of this index."""

    def __init__(self, index):
        self.index = index
