"""Hosts: points [37], [38], [39], [40]; the point "Hosts" of the promise [4]."""

import inspect
import random
import unittest

from hookrow.bodies import check_body
from hookrow.errors import BadCall, Barred, CallFailed, InvalidBody, InvalidPlugin, NoHook, NoKept, NoPlugin, Taken
from hookrow.hooks import Hook
from hookrow.hosts import Host, Trial
from hookrow.plugins import Part, Plugin
from hookrow.rows import Row
from hookrow.terms import Failure
from hostmaker import LIST, NAMES, SHADE, TRIM, fault, has_order, made, plugin_for, some_call
import reckoning

NONE = ("none",)
ONE = ("number", 1)
HOOKS = [TRIM, SHADE, LIST]
BY_NAME = {hook.name: hook for hook in HOOKS}


def plugin(name, *hooks, body=ONE, **how):
    return Plugin(name, [Part(hook, body, **how) for hook in hooks])


def told(host):
    """All that a host tells, apart from its kept calls."""
    return (host.by_age, [host[name] for name in host.by_age], host.log(), host.changed, len(host), host.hooks)


class Model:
    """A host told plainly: a dict of the plugins by age, the deeds with what was there before them, kept calls."""

    def __init__(self):
        self.plugins = {}
        self.deeds = []
        self.kept = []
        self.changed = ()

    def host(self):
        made = Host(HOOKS)
        for each in self.plugins.values():
            made.add(each)
        return made

    def results(self):
        """The sets of results of the kept calls."""
        host = self.host()
        return [
            set(reckoning.results_in(host, hook, call)) if has_order(host, hook) else None for hook, call in self.kept
        ]

    def turn(self, plugins):
        before = self.results()
        self.plugins = plugins
        self.changed = tuple(at for at, each in enumerate(self.results()) if each != before[at])

    def refusal(self, kind, name, its=None):
        """The error for a deed, or None."""
        if kind == "add" and name in self.plugins:
            return (Taken, {"name": name})
        if kind == "drop":
            return None if name in self.plugins else (NoPlugin, {"name": name})
        for part in its.parts:
            if part.hook not in BY_NAME:
                return (NoHook, {"name": part.hook})
            if part.wraps and BY_NAME[part.hook].kind == "each":
                return (InvalidPlugin, {"word": "wraps", "hook": part.hook})
            wrong = fault(lambda: check_body(BY_NAME[part.hook], part.body, wraps=part.wraps))
            if wrong is not None:
                return wrong
            others = [each for each in self.plugins.values() if each.name != name and each.part(part.hook)]
            if len(others) >= 5:
                return (InvalidPlugin, {"word": "many", "hook": part.hook})
        return None

    def do(self, kind, name, its=None):
        wrong = self.refusal(kind, name, its)
        if wrong is None:
            before = self.plugins
            if kind == "drop":
                self.turn({each: one for each, one in before.items() if each != name})
            else:
                self.turn({**before, name: its})
            entry = {"add": ("add", its), "drop": ("drop", name), "put": ("put", name, its)}[kind]
            self.deeds.append((entry, before))
        return wrong

    def undo(self):
        if not self.deeds:
            return False
        _, before = self.deeds.pop()
        self.turn(before)
        return True

    def saved(self):
        return (self.plugins, list(self.deeds), list(self.kept), self.changed)

    def restore(self, saved):
        self.plugins, deeds, kept, self.changed = saved
        self.deeds, self.kept = list(deeds), list(kept)


def wrong_plugin(rng, name):
    """A plugin with something that a host refuses, in one of its parts or in several."""
    parts = []
    for hook in rng.sample(["trim", "shade", "list", "other", "aa"], rng.randrange(1, 4)):
        wraps = rng.random() < 0.3
        body = rng.choice([
            ONE, ("number", True), ("word", "x"), ("param", "nobody"), ["number", 1], ("ask", (), ONE, None), None, 5,
            ("if", ("most", "mode", 3), ONE, NONE), ("if", ("lacks",), ONE, NONE),
        ])
        parts.append(Part(hook, body, wraps=wraps))
    return Plugin(name, parts)


class Against(unittest.TestCase):
    """Rows of deeds of all kinds against the model."""

    def check(self, host, model):
        self.assertEqual(host.by_age, tuple(model.plugins))
        self.assertEqual(list(host), list(model.plugins))
        self.assertEqual(len(host), len(model.plugins))
        self.assertEqual(host.log(), [entry for entry, _ in model.deeds])
        for name in NAMES:
            self.assertIs(name in host, name in model.plugins)
            if name in model.plugins:
                self.assertEqual(host[name], model.plugins[name])
            else:
                self.assertEqual(fault(lambda: host[name]), (NoPlugin, {"name": name}))
        again = model.host()
        self.assertTrue(host == again and again == host)
        for hook in host.hooks:
            self.assertEqual(host.row(hook), again.row(hook))
        self.assertEqual(host.changed, model.changed)
        for index, results in enumerate(model.results()):
            kept = host.kept(index)
            self.assertEqual(None if kept is None else {reckoning.typed(each) for each in kept}, results)
            self.assertTrue(kept is None or isinstance(kept, tuple) and len(kept) == len(results))
        self.assertEqual(fault(lambda: host.kept(len(model.kept))), (NoKept, {"index": len(model.kept)}))

    def deed(self, rng, host, model):
        """One thing that may happen to a host."""
        kind = rng.choice(["add", "add", "add", "drop", "put", "put", "undo", "undo", "keep", "plus", "minus"])
        name = rng.choice(NAMES)
        if rng.random() < 0.2:
            its = wrong_plugin(rng, name)
        else:
            its = plugin_for(rng, name, HOOKS, bringing=0.6, deep=1, wishing=0.3)
        if kind == "undo":
            self.assertIs(host.undo(), model.undo())
        elif kind == "keep":
            if len(model.kept) < 6:
                hook = rng.choice(HOOKS)
                call = some_call(rng, hook, 2)
                self.assertEqual(host.keep(hook.name, call), len(model.kept))
                model.kept.append((hook.name, dict(call)))
                call["size"] = 1000
        elif kind in ("add", "plus"):
            self.assertEqual(fault(lambda: self.add(host, its, kind)), model.do("add", name, its))
        elif kind in ("drop", "minus"):
            self.assertEqual(fault(lambda: self.drop(host, name, kind)), model.do("drop", name))
        else:
            self.assertEqual(fault(lambda: host.__setitem__(name, its)), model.do("put", name, its))

    def add(self, host, its, kind):
        if kind == "add":
            self.assertIsNone(host.add(its))
        else:
            same = host
            same += its
            self.assertIs(same, host)

    def drop(self, host, name, kind):
        if kind == "drop":
            self.assertIsNone(host.drop(name))
        else:
            same = host
            same -= name
            self.assertIs(same, host)

    def test_rows_of_deeds(self):
        for seed in range(40):
            rng = random.Random(seed)
            host, model = Host(HOOKS), Model()
            for _ in range(25):
                self.deed(rng, host, model)
                self.check(host, model)

    def test_undo_to_the_beginning_and_on(self):
        rng = random.Random(100)
        for _ in range(10):
            host, model = Host(HOOKS), Model()
            for _ in range(15):
                self.deed(rng, host, model)
            while model.deeds:
                self.assertIs(host.undo(), True)
                self.assertIs(model.undo(), True)
                self.check(host, model)
            self.assertIs(host.undo(), False)
            self.check(host, model)
            self.deed(rng, host, model)
            self.check(host, model)

    def test_trials_in_rows_of_deeds(self):
        """Trials within one another, left by errors or without, are undone as a whole."""
        class Other(Exception):
            pass

        for seed in range(25):
            rng = random.Random(200 + seed)
            host, model = Host(HOOKS), Model()
            for _ in range(6):
                self.deed(rng, host, model)
            self.nested(rng, host, model, 3, Other)

    def nested(self, rng, host, model, deep, error):
        for _ in range(2):
            saved = model.saved()
            leave = rng.choice([None, error, NoKept])
            try:
                with host.trial() as inside:
                    self.assertIs(inside, host)
                    for _ in range(rng.randrange(5)):
                        self.deed(rng, host, model)
                        self.check(host, model)
                    if deep > 0:
                        self.nested(rng, host, model, deep - 1, error)
                    if leave is not None:
                        raise leave(7)
            except (error, NoKept) as told_error:
                self.assertIs(type(told_error), leave)
            else:
                self.assertIsNone(leave)
            model.restore(saved)
            self.check(host, model)
            self.deed(rng, host, model)
            self.check(host, model)


class Deeds(unittest.TestCase):
    """Point [37]."""

    def test_hooks(self):
        for hooks in [HOOKS, HOOKS[::-1], tuple(HOOKS)]:
            host = Host(hooks)
            self.assertEqual(host.hooks, ("list", "shade", "trim"))
            self.assertIs(host.hook_of("shade"), SHADE)
            self.assertEqual(fault(lambda: host.hook_of("tint")), (NoHook, {"name": "tint"}))
            self.assertEqual((len(host), host.by_age, host.log(), host.changed), (0, (), [], ()))
        self.assertEqual(Host([]).hooks, ())
        hooks = [SHADE]
        host = Host(hooks)
        hooks.append(TRIM)
        self.assertEqual((host.hooks, hooks), (("shade",), [SHADE, TRIM]))

    def test_ages(self):
        host = Host(HOOKS)
        for name in "cab":
            self.assertIsNone(host.add(plugin(name, "shade")))
        self.assertEqual(host.by_age, ("c", "a", "b"))
        host["a"] = plugin("a", "shade", body=NONE)
        self.assertEqual(host.by_age, ("c", "a", "b"))
        self.assertEqual(host["a"].part("shade").body, NONE)
        host["d"] = plugin("d", "shade")
        self.assertEqual(host.by_age, ("c", "a", "b", "d"))
        host.drop("c")
        host.add(plugin("c", "shade"))
        self.assertEqual((host.by_age, host.row("shade").names), (("a", "b", "d", "c"),) * 2)

    def test_refusals(self):
        host = Host(HOOKS)
        host.add(plugin("a", "shade"))
        wrong = InvalidBody
        for parts, expected in [
            ([Part("nobody", ONE)], (NoHook, {"name": "nobody"})),
            ([Part("nobody", 5), Part("other", 5)], (NoHook, {"name": "nobody"})),
            ([Part("list", ONE, wraps=True)], (InvalidPlugin, {"word": "wraps", "hook": "list"})),
            ([Part("list", 5, wraps=True)], (InvalidPlugin, {"word": "wraps", "hook": "list"})),
            ([Part("shade", 5)], (wrong, {"word": "form", "path": ()})),
            ([Part("shade", ("param", "nobody"))], (wrong, {"word": "param", "path": ()})),
            ([Part("shade", ("word", "x"))], (wrong, {"word": "sort", "path": ()})),
            ([Part("shade", ("ask", (), ONE, None))], (wrong, {"word": "form", "path": ()})),
            ([Part("shade", ("ask", (("size", ONE), ("size", ONE)), ONE, None), wraps=True)],
             (wrong, {"word": "twice", "path": ()})),
            ([Part("shade", ("if", ("most", "size", 3), ONE, ("if", ONE, ONE, ONE)))],
             (wrong, {"word": "form", "path": (3, 1)})),
            ([Part("trim", 5), Part("list", ONE, wraps=True)], (InvalidPlugin, {"word": "wraps", "hook": "list"})),
            ([Part("trim", 5), Part("shade", ("param", "x"))], (wrong, {"word": "param", "path": ()})),
            ([Part("list", 5), Part("aa", ONE)], (NoHook, {"name": "aa"})),
            ([Part("list", 5), Part("zz", ONE)], (wrong, {"word": "form", "path": ()})),
        ]:
            self.refused(host, Plugin("b", parts), expected)

    def refused(self, host, its, expected):
        """All deeds that bring a plugin refuse it, and nothing changes."""
        before = told(host)
        again = host + plugin("zz")
        for work in [
            lambda: host.add(its), lambda: host.__setitem__(its.name, its), lambda: host.__iadd__(its),
            lambda: host + its,
        ]:
            self.assertEqual(fault(work), expected)
            self.assertEqual(told(host), before)
        self.assertEqual(host + plugin("zz"), again)

    def test_many(self):
        host = Host(HOOKS)
        for name in "abcde":
            host.add(plugin(name, "shade", "trim"))
        many = (InvalidPlugin, {"word": "many", "hook": "shade"})
        self.refused(host, plugin("f", "shade"), many)
        self.refused(host, plugin("f", "shade", "list"), many)
        self.refused(host, Plugin("f", [Part("shade", ONE), Part("trim", 5)]), many)
        self.refused(host, Plugin("f", [Part("shade", 5)]), (InvalidBody, {"word": "form", "path": ()}))
        self.refused(host, Plugin("f", [Part("list", 5), Part("shade", ONE)]), (InvalidBody, {"word": "form", "path": ()}))
        self.refused(host, Plugin("f", [Part("trim", ONE)]), (InvalidPlugin, {"word": "many", "hook": "trim"}))
        host.add(plugin("f", "list"))
        host["a"] = plugin("a", "shade", "list", body=NONE)
        host["a"] = plugin("a", "list")
        host["f"] = plugin("f", "shade")
        self.assertEqual(fault(lambda: host.__setitem__("a", plugin("a", "shade"))), many)
        self.assertEqual(len(host.row("shade")), 5)

    def test_taken_and_unknown_come_first(self):
        host = Host(HOOKS)
        host.add(plugin("a", "shade"))
        before = told(host)
        for its in [plugin("a"), plugin("a", "nobody"), Plugin("a", [Part("shade", 5)])]:
            for work in (lambda: host.add(its), lambda: host + its, lambda: host.__iadd__(its)):
                self.assertEqual(fault(work), (Taken, {"name": "a"}))
        for work in (lambda: host.drop("b"), lambda: host - "b", lambda: host.__isub__("b"), lambda: host["b"]):
            self.assertEqual(fault(work), (NoPlugin, {"name": "b"}))
        self.assertEqual(told(host), before)

    def test_refused_deeds_leave_changed_as_it_is(self):
        host = Host(HOOKS)
        host.keep("shade", {"size": 1})
        host.add(plugin("a", "shade"))
        self.assertEqual(host.changed, (0,))
        for work in [
            lambda: host.add(plugin("a")), lambda: host.drop("z"), lambda: host.add(plugin("b", "nobody")),
            lambda: host.__setitem__("a", Plugin("a", [Part("shade", 5)])), lambda: host.kept(3),
            lambda: host.keep("nobody", {}), lambda: host + plugin("a"), lambda: host - "z",
        ]:
            self.assertIsNotNone(fault(work))
            self.assertEqual((host.changed, host.by_age, len(host.log())), ((0,), ("a",), 1))

    def test_a_ring_does_not_bar_a_deed(self):
        host = Host(HOOKS)
        host.add(plugin("a", "shade", before=["b"]))
        host.add(plugin("b", "shade", before=["a"]))
        host.add(plugin("c", "shade"))
        self.assertEqual(host.row("shade").ring, ("a", "b"))
        host["c"] = plugin("c", "shade", body=NONE)
        host.drop("b")
        self.assertIsNone(host.row("shade").ring)

    def test_plugins_without_parts(self):
        host = Host(HOOKS)
        for name in NAMES:
            host.add(plugin(name))
        self.assertEqual((len(host), host.row("shade")), (7, Row([])))


class Reading(unittest.TestCase):
    """Point [38]."""

    def test_any_string(self):
        host = Host(HOOKS)
        host.add(plugin("a", "shade"))
        for name in ["", "A", "before", "a b", "aa", "abcdefghijk", "\xe4", "shade"]:
            self.assertIs(name in host, False)
            self.assertEqual(fault(lambda: host[name]), (NoPlugin, {"name": name}))
        self.assertIs("a" in host, True)
        self.assertIs(host["a"], host["a"])

    def test_plus_and_minus(self):
        host = Host(HOOKS)
        host.add(plugin("b", "shade"))
        host.add(plugin("a", "shade"))
        host.keep("shade", {"size": 1})
        before = told(host)
        more, fewer = host + plugin("c", "trim"), host - "b"
        self.assertEqual((more.by_age, fewer.by_age), (("b", "a", "c"), ("a",)))
        for other in (more, fewer):
            self.assertIsInstance(other, Host)
            self.assertEqual((other.log(), other.changed, other.undo(), other.hooks), ([], (), False, host.hooks))
            self.assertEqual(fault(lambda: other.kept(0)), (NoKept, {"index": 0}))
            self.assertEqual(other.keep("shade", {"size": 2}), 0)
        more.add(plugin("d", "shade"))
        fewer.drop("a")
        self.assertEqual(told(host), before)
        host.drop("a")
        self.assertEqual((more.by_age, host.by_age), (("b", "a", "c", "d"), ("b",)))

    def test_equal(self):
        def made(hooks, *plugins):
            host = Host(hooks)
            for its in plugins:
                host.add(its)
            return host

        one, two, three = plugin("a", "shade"), plugin("b", "shade"), plugin("b", "shade", body=NONE)
        hosts = [
            lambda: made(HOOKS), lambda: made([SHADE]), lambda: made([SHADE], one), lambda: made(HOOKS, one),
            lambda: made(HOOKS, one, two), lambda: made(HOOKS, two, one), lambda: made(HOOKS, one, three),
            lambda: made([SHADE, TRIM, Hook("list", "each", [("size", "number")])], one),
        ]
        for at, make in enumerate(hosts):
            for there, other in enumerate(hosts):
                self.assertIs(make() == other(), at == there)
                self.assertIs(make() != other(), at != there)
        self.assertTrue(made(HOOKS, one, two) == made(HOOKS[::-1], one, two))
        for thing in [None, 0, "a", (), [], {}, object(), SHADE, one]:
            self.assertFalse(made(HOOKS, one) == thing)

    def test_equal_whatever_the_history(self):
        one, other = Host(HOOKS), Host(HOOKS)
        one.add(plugin("a", "shade"))
        one.add(plugin("b", "shade"))
        one.drop("a")
        one.keep("shade", {"size": 0})
        other.add(plugin("b", "shade"))
        self.assertTrue(one == other)
        one.undo()
        self.assertFalse(one == other)

    def test_rows(self):
        host = Host(HOOKS)
        host.add(plugin("b", "shade"))
        host.add(plugin("a", "shade", "trim", before=["b"]))
        self.assertEqual(host.row("shade"), Row(["b", "a"], [("a", "b")]))
        self.assertEqual(host.row(hook="trim"), Row(["a"]))
        self.assertEqual(host.row("list"), Row([]))
        self.assertEqual(fault(lambda: host.row("nobody")), (NoHook, {"name": "nobody"}))

    def test_iterating(self):
        host = Host(HOOKS)
        for name in "cab":
            host.add(plugin(name))
        self.assertEqual(([name for name in host], list(host), sorted(host)), (["c", "a", "b"], ["c", "a", "b"], ["a", "b", "c"]))
        for name in host:
            host.drop(name)
        self.assertEqual(len(host), 0)


class Calling(unittest.TestCase):
    """Point [39]."""

    def setUp(self):
        hook = Hook("trim", "through", [("size", "number"), ("many", "number", 3)], only=[("mode", "word", "x")])
        self.host = Host([hook, SHADE])
        body = ("if", ("is", "mode", "x"), ("plus", "many", 100), ("plus", "size", 1))
        self.host.add(Plugin("a", [Part("trim", body)]))

    def test_each_way_of_passing(self):
        call = self.host.call
        self.assertEqual(call("trim", 1), 103)
        self.assertEqual(call("trim", 1, 5), 105)
        self.assertEqual(call("trim", size=1), 103)
        self.assertEqual(call("trim", 1, many=6), 106)
        self.assertEqual(call("trim", many=6, size=1, mode="x"), 106)
        self.assertEqual(call("trim", 1, mode="y"), 2)
        self.assertEqual(call("trim", 7, 8, mode="y"), 8)
        self.assertEqual(call(hook="trim", size=1), 103)
        self.assertIsNone(call("shade", 1))

    def test_example(self):
        host = Host([SHADE])
        host.add(Plugin("a", [Part("shade", ("if", ("most", "size", 9), ONE, NONE))]))
        host.add(Plugin("b", [Part("shade", NONE, after=["a"], before=["c"])]))
        host.add(Plugin("c", [Part("shade", ("number", 2))]))
        self.assertEqual((host.call("shade", 4), host.call("shade", size=12)), (1, 2))

    def test_bad_calls(self):
        for args, named, word, name in [
            ((1, 2, 3), {}, "many", None), ((1,), {"zz": 1}, "unknown", "zz"), ((1,), {"size": 1}, "twice", "size"),
            ((), {}, "missing", "size"), (("x",), {}, "sort", "size"), ((1,), {"mode": 1}, "sort", "mode"),
            ((True,), {}, "sort", "size"), ((1,), {"many": None}, "sort", "many"),
        ]:
            self.assertEqual(fault(lambda: self.host.call("trim", *args, **named)), (BadCall, {"word": word, "name": name}))

    def test_errors_in_turn(self):
        host = self.host
        host.add(Plugin("b", [Part("trim", ("fail", "x"))]))
        self.assertEqual(fault(lambda: host.call("trim", 1)), (CallFailed, {"word": "x", "plugin": "b"}))
        self.assertEqual(fault(lambda: host.call("nobody", 1, 2, 3, 4)), (NoHook, {"name": "nobody"}))
        host.add(Plugin("c", [Part("trim", ONE, before=["b"], after=["b"])]))
        self.assertEqual(fault(lambda: host.call("trim", 1)), (Barred, {"hook": "trim", "names": ("b", "c")}))
        self.assertEqual(fault(lambda: host.call("trim")), (BadCall, {"word": "missing", "name": "size"}))
        self.assertEqual(fault(lambda: host.call("nobody")), (NoHook, {"name": "nobody"}))

    def test_failures_of_wrappers(self):
        host = Host([SHADE])
        host.add(plugin("a", "shade", body=("ask", (), ("fail", "y"), None), wraps=True))
        self.assertEqual(fault(lambda: host.call("shade", 1)), (CallFailed, {"word": "y", "plugin": "a"}))

    def test_results_of_all_kinds(self):
        host = Host([LIST, SHADE])
        self.assertEqual(host.call("list", 1), ())
        host.add(plugin("a", "list", "shade", body=("param", "size")))
        self.assertEqual((host.call("list", 1), host.call("shade", 4)), ((1,), 4))

    def test_the_own_order(self):
        host = Host([SHADE])
        for name, body in [("b", ("number", 2)), ("a", ("number", 1))]:
            host.add(plugin(name, "shade", body=body))
        self.assertEqual(host.call("shade", 0), 2)
        host["a"] = plugin("a", "shade", layer="early")
        self.assertEqual(host.call("shade", 0), 1)

    def test_log_is_new(self):
        log = self.host.log()
        log.clear()
        self.assertEqual(len(self.host.log()), 1)
        self.assertIs(type(self.host.log()), list)

    def test_log_and_undo(self):
        host = Host(HOOKS)
        one, two, three = plugin("a", "shade"), plugin("b", "shade"), plugin("a", "shade", body=NONE)
        host.add(one)
        host += two
        host["a"] = three
        host -= "b"
        host["b"] = two
        deeds = [("add", one), ("add", two), ("put", "a", three), ("drop", "b"), ("put", "b", two)]
        self.assertEqual(host.log(), deeds)
        ages = [("a", "b"), ("a",), ("a", "b"), ("a", "b"), ("a",), ()]
        for at in range(5):
            self.assertEqual((host.by_age, host.log()), (ages[at], deeds[:5 - at]))
            self.assertIs(host.undo(), True)
        self.assertEqual((host.by_age, host.log()), ((), []))
        self.assertIs(host.undo(), False)
        self.assertEqual(host.log(), [])

    def test_undo_brings_the_age_back(self):
        host = Host(HOOKS)
        for name in "abc":
            host.add(plugin(name, "shade"))
        host.drop("a")
        host.undo()
        self.assertEqual(host.by_age, ("a", "b", "c"))


class Kept(unittest.TestCase):
    """Point [40]."""

    def test_example(self):
        host = Host([SHADE])
        host.add(plugin("a", "shade", body=("if", ("most", "size", 9), ONE, NONE)))
        host.add(plugin("b", "shade", body=NONE, after=["a"], before=["c"]))
        host.add(plugin("c", "shade", body=("number", 2)))
        dim = ("ask", (("size", ("plus", "size", 9)),), ("plus", "inner", 10), None)
        host.add(plugin("dim", "shade", body=dim, wraps=True))
        self.assertEqual((host.keep("shade", {"size": -5}), host.kept(0)), (0, (11,)))
        host.drop("b")
        self.assertEqual(
            (host.changed, sorted(host.kept(0)), host.undo(), host.log()[-1][0]), ((0,), [11, 12], True, "add"))

    def test_indexes(self):
        host = Host(HOOKS)
        call = {"size": 1}
        self.assertEqual([host.keep("shade", call) for _ in range(3)], [0, 1, 2])
        self.assertIs(type(host.keep(call=call, hook="shade")), int)
        for index in (4, 5, -1, -4, 10 ** 20, -10 ** 20):
            self.assertEqual(fault(lambda: host.kept(index)), (NoKept, {"index": index}))
        self.assertEqual(fault(lambda: host.keep("nobody", call)), (NoHook, {"name": "nobody"}))
        self.assertEqual(host.kept(index=3), (None,))
        self.assertEqual(host.keep("shade", call), 4)

    def test_a_call_stays_what_it_was(self):
        host = Host(HOOKS)
        host.add(plugin("a", "shade", body=("param", "size")))
        call = {"size": 1}
        host.keep("shade", call)
        call["size"] = 2
        self.assertEqual((host.kept(0), call), ((1,), {"size": 2}))

    def test_rings_that_come_and_go(self):
        host = Host(HOOKS)
        host.keep("shade", {"size": 1})
        host.keep("trim", {"size": 1, "many": 1})
        host.add(plugin("a", "shade", before=["b"]))
        self.assertEqual(host.changed, (0,))
        host.add(plugin("b", "shade", before=["a"]))
        self.assertEqual((host.changed, host.kept(0), host.kept(1)), ((0,), None, (1,)))
        host.add(plugin("c", "shade", body=("number", 5)))
        self.assertEqual((host.changed, host.kept(0)), ((), None))
        host.drop("a")
        self.assertEqual((host.changed, sorted(host.kept(0))), ((0,), [1, 5]))
        host.undo()
        self.assertEqual((host.changed, host.kept(0)), ((0,), None))

    def test_changed_of_the_last_deed(self):
        host = Host(HOOKS)
        host.add(plugin("a", "shade"))
        self.assertEqual(host.changed, ())
        host.keep("shade", {"size": 1})
        self.assertEqual(host.changed, ())
        host.add(plugin("b", "shade"))
        self.assertEqual(host.changed, ())
        host.add(plugin("c", "shade", body=("number", 2)))
        self.assertEqual(host.changed, (0,))
        host.keep("shade", {"size": 1})
        self.assertEqual(host.changed, (0,))
        host.drop("b")
        self.assertEqual(host.changed, ())
        host.drop("c")
        self.assertEqual(host.changed, (0, 1))
        host.undo()
        self.assertEqual(host.changed, (0, 1))
        host.undo()
        self.assertEqual(host.changed, ())
        host["a"] = plugin("a", "shade", body=("number", 3))
        self.assertEqual(host.changed, (0, 1))

    def test_an_undo_that_does_nothing(self):
        host = Host(HOOKS)
        host.keep("shade", {"size": 1})
        host.add(plugin("a", "shade"))
        host.undo()
        self.assertEqual((host.changed, host.undo(), host.changed), ((0,), False, (0,)))

    def test_sets_count_and_not_numbers(self):
        host = Host(HOOKS)
        host.keep("shade", {"size": 1})
        host.add(plugin("a", "shade"))
        host.add(plugin("b", "shade", body=("number", 2)))
        self.assertEqual(host.changed, (0,))
        host.add(plugin("c", "shade", body=("number", 2)))
        self.assertEqual((host.changed, sorted(host.kept(0))), ((), [1, 2]))

    def test_failures(self):
        host = Host(HOOKS)
        host.keep("shade", {"size": 1})
        host.add(plugin("a", "shade", body=("fail", "x")))
        self.assertEqual(host.kept(0), (Failure("x", "a"),))
        host["a"] = plugin("a", "shade", body=("fail", "y"))
        self.assertEqual(host.changed, (0,))
        host["a"] = plugin("a", "shade", body=("if", ("most", "size", 3), ("fail", "y"), NONE))
        self.assertEqual(host.changed, ())


class Trials(unittest.TestCase):
    def made(self):
        host = Host(HOOKS)
        host.keep("shade", {"size": 1})
        host.add(plugin("a", "shade"))
        return host

    def test_left_well(self):
        host = self.made()
        before = told(host)
        trial = host.trial()
        self.assertIsInstance(trial, Trial)
        self.assertEqual(told(host), before)
        with trial as inside:
            self.assertIs(inside, host)
            inside.add(plugin("b", "shade", body=NONE))
            inside.undo()
            inside.undo()
            inside.undo()
            self.assertEqual(inside.keep("shade", {"size": 2}), 1)
            inside["z"] = plugin("z", "shade", body=("number", 7))
            self.assertEqual((inside.changed, inside.by_age, len(inside.log())), ((0, 1), ("z",), 1))
        self.assertEqual(told(host), before)
        self.assertEqual(fault(lambda: host.kept(1)), (NoKept, {"index": 1}))
        self.assertEqual((host.kept(0), host.changed), ((1,), (0,)))
        self.assertEqual(host.keep("shade", {"size": 3}), 1)

    def test_errors_go_on(self):
        class Own(Exception):
            pass

        class Base(BaseException):
            pass

        error = Own("told")
        for leave in (error, Base(), KeyboardInterrupt(), KeyError("a"), ValueError(), NoHook("x"), Taken("a"), StopIteration()):
            host = self.made()
            before = told(host)
            with self.assertRaises(type(leave)) as caught:
                with host.trial():
                    host.drop("a")
                    raise leave
            self.assertIs(caught.exception, leave)
            self.assertEqual(told(host), before)
        host = self.made()
        with self.assertRaises(NoPlugin):
            with host.trial():
                host.drop("a")
                host.drop("a")
        self.assertEqual(host.by_age, ("a",))

    def test_as_it_was_when_entered(self):
        host = self.made()
        trial = host.trial()
        host.add(plugin("b", "shade"))
        with trial:
            host.drop("a")
        self.assertEqual(host.by_age, ("a", "b"))

    def test_nested(self):
        host = self.made()
        with host.trial():
            host.add(plugin("b", "shade"))
            middle = told(host)
            with host.trial() as inner:
                inner.drop("a")
                inner.keep("shade", {"size": 5})
            self.assertEqual(told(host), middle)
            with self.assertRaises(ZeroDivisionError):
                with host.trial() as inner:
                    inner.drop("b")
                    raise ZeroDivisionError
            self.assertEqual(told(host), middle)
        self.assertEqual(host.by_age, ("a",))

    def test_undo_behind_a_trial(self):
        host = self.made()
        with host.trial():
            host.undo()
            host.add(plugin("b", "shade"))
        self.assertEqual([deed[0] for deed in host.log()], ["add"])
        self.assertIs(host.undo(), True)
        self.assertEqual((host.by_age, host.changed, host.undo()), ((), (0,), False))

    def test_in_trial(self):
        host = self.made()
        before = told(host)

        def work(inside):
            self.assertIs(inside, host)
            inside.drop("a")
            return inside.by_age

        self.assertEqual(host.in_trial(work), ())
        self.assertEqual(host.in_trial(work=work), ())
        self.assertEqual(told(host), before)
        self.assertIsNone(host.in_trial(lambda inside: inside.drop("a")))
        self.assertEqual(host.in_trial(lambda inside: host.in_trial(work)), ())
        with self.assertRaises(NoPlugin):
            host.in_trial(lambda inside: inside.drop("z"))
        self.assertEqual(told(host), before)


class Conventions(unittest.TestCase):
    def test_by_name(self):
        host = Host(hooks=HOOKS)
        host.add(plugin=plugin("a", "shade"))
        self.assertEqual((host.hook_of(name="shade"), host.row(hook="shade")), (SHADE, Row(["a"])))
        host.drop(name="a")
        self.assertEqual(host.by_age, ())

    def test_signatures(self):
        self.assertEqual(
            {name: str(inspect.signature(vars(Host)[name])) for name in [
                "hook_of", "row", "add", "drop", "undo", "log", "call", "keep", "kept", "trial", "in_trial"]},
            {"hook_of": "(self, name)", "row": "(self, hook)", "add": "(self, plugin)", "drop": "(self, name)",
             "undo": "(self)", "log": "(self)", "call": "(self, hook, *args, **named)", "keep": "(self, hook, call)",
             "kept": "(self, index)", "trial": "(self)", "in_trial": "(self, work)"})

    def test_plugins_are_not_changed(self):
        its = Plugin("a", [Part("shade", ("plus", "size", 1), after=["b"])])
        shown = str(its)
        host = Host(HOOKS)
        host.add(its)
        host.call("shade", 1)
        self.assertEqual(str(its), shown)
        self.assertIs(host["a"], its)


if __name__ == "__main__":
    unittest.main()
