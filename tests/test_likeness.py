"""Likeness: point [35]; the points "Alike" and "All calls" of the promise [4]."""

import inspect
import random
import unittest

from hookrow.errors import Barred, NoHook, NoPlugin
from hookrow.hooks import Hook
from hookrow.hosts import Host
from hookrow.likeness import alike, deciders, quiet
from hookrow.plugins import Part, Plugin
from hookrow.running import trace
from hookrow.tables import table
from hookrow.terms import Failure
from hostmaker import HOOKS, LIST, PLAIN, SHADE, TRIM, WIDE, calls_beside, drawn, fault, full_host, grid, has_order
from hostmaker import host_for, made, some_call
import reckoning

NONE = ("none",)
RING = [Part("shade", NONE, before=["b"]), Part("shade", NONE, before=["a"])]


def with_plugins(host, plugins):
    """A new host with the same hooks."""
    other = Host([host.hook_of(name) for name in host.hooks])
    for plugin in plugins:
        other.add(plugin)
    return other


def changed(part, **how):
    """A part with something otherwise."""
    told = {"before": part.before, "after": part.after, "layer": part.layer, "wraps": part.wraps}
    body = how.pop("body", part.body)
    return Part(part.hook, body, **{**told, **how})


def denied(tree):
    """The tree with each test denied and the branches of its `if` exchanged."""
    if tree[0] == "if":
        return ("if", ("not", tree[1]), denied(tree[3]), denied(tree[2]))
    if tree[0] == "ask":
        sends = tuple((name, denied(sent)) for name, sent in tree[1])
        return ("ask", sends, denied(tree[2]), None if tree[3] is None else denied(tree[3]))
    return tree


def written_otherwise(rng, host, hook):
    """A host that gives the same: other ages, tests denied, wishes on the other side, and names that are not there."""
    parts = {name: changed(part, body=denied(part.body)) for name, part in reckoning.parts_of(host, hook).items()}
    for name in list(parts):
        for other in parts[name].before:
            if other in parts:
                parts[other] = changed(parts[other], after=[*parts[other].after, name])
                parts[name] = changed(parts[name], before=[each for each in parts[name].before if each != other])
        parts[name] = changed(parts[name], after=[*parts[name].after, "zz"])
    plugins = [Plugin(name, [parts[name]]) for name in rng.sample(list(parts), len(parts))]
    return with_plugins(host, plugins)


class Alike(unittest.TestCase):
    def check(self, host, other, name, calls):
        """What `alike` tells, against all orders at some calls; returns it."""
        call = alike(host, other, name)
        differ = [each for each in calls if self.differ(host, other, name, each)]
        if call is None:
            self.assertEqual(differ, [])
        else:
            hook = host.hook_of(name)
            self.assertEqual(sorted(call), sorted(hook.names))
            given = {each: call[each] for each, _, _ in hook.only}
            hook.bind([call[each] for each, _, _ in hook.params], given)
            self.assertTrue(self.differ(host, other, name, call))
        return call

    def differ(self, host, other, name, call):
        return set(reckoning.results_in(host, name, call)) != set(reckoning.results_in(other, name, call))

    def test_example(self):
        host = made(SHADE, ("if", ("most", "size", 9), ("number", 1), NONE), Part("shade", NONE, after=["a"], before=["c"]),
                    ("number", 2))
        dim = ("ask", (("size", ("plus", "size", 9)),), ("plus", "inner", 10), None)
        host.add(Plugin("dim", [Part("shade", dim, wraps=True)]))
        self.assertLessEqual(alike(host, host - "b", "shade")["size"], 0)
        self.assertEqual(quiet(host, "b")[0], "shade")
        self.assertIsNone(alike(host, host, "shade"))

    def test_no_parts(self):
        self.assertIsNone(alike(made(SHADE), made(SHADE), "shade"))
        self.assertIsNone(alike(made(SHADE), made(SHADE, NONE, NONE), "shade"))
        self.assertIsNotNone(alike(made(SHADE), made(SHADE, ("number", 0)), "shade"))
        self.assertEqual(alike(made(PLAIN), made(PLAIN, ("number", 0)), "plain"), {})

    def test_sets_are_compared_and_not_numbers(self):
        one = made(SHADE, ("number", 1), ("number", 2), ("number", 2))
        self.assertIsNone(alike(one, made(SHADE, ("number", 2), ("number", 1)), "shade"))
        self.assertIsNotNone(alike(one, made(SHADE, ("number", 1)), "shade"))
        self.assertIsNotNone(alike(made(SHADE, ("number", 1)), one, "shade"))

    def test_failures_of_other_plugins(self):
        one, other = made(SHADE, ("fail", "x")), made(SHADE, NONE, ("fail", "x"))
        self.assertIsNotNone(alike(one, other, "shade"))
        self.assertIsNone(alike(other, other - "a", "shade"))

    def test_results_that_together_are_the_same(self):
        """Terms that differ, with the same values at the calls at which they are given."""
        def up_to(k, low, high):
            return ("if", ("most", "size", k), low, high)
        here = up_to(2, NONE, up_to(4, ("param", "size"), NONE))
        there = up_to(2, NONE, up_to(3, ("number", 3), up_to(4, ("number", 4), NONE)))
        self.assertIsNone(alike(made(SHADE, here), made(SHADE, there), "shade"))
        both = [("number", 3), ("number", 4), here]
        self.assertIsNone(alike(made(SHADE, *[up_to(2, NONE, up_to(4, body, NONE)) for body in both]),
                                made(SHADE, *[up_to(2, NONE, up_to(4, body, NONE)) for body in both[:2]]), "shade"))
        other = up_to(2, NONE, up_to(4, ("plus", "size", 1), NONE))
        self.assertEqual(alike(made(SHADE, *[up_to(2, NONE, up_to(4, body, NONE)) for body in both[:2]], other),
                               made(SHADE, *[up_to(2, NONE, up_to(4, body, NONE)) for body in both[:2]]), "shade"), {"size": 4})

    def test_one_call_alone(self):
        for at in (0, 5, -1000):
            here = ("both", ("most", "size", at), ("not", ("most", "size", at - 1)))
            one = made(SHADE, ("if", here, ("number", 1), ("number", 0)))
            self.assertEqual(alike(one, made(SHADE, ("number", 0)), "shade"), {"size": at})
            self.assertEqual(alike(made(SHADE, ("number", 0)), one, "shade"), {"size": at})

    def test_rings(self):
        ring, fine = made(SHADE, *RING), made(SHADE, NONE)
        self.assertIsNone(alike(ring, ring, "shade"))
        self.assertIsNone(alike(ring, made(SHADE, NONE, Part("shade", NONE, before=["a"], after=["a"])), "shade"))
        for one, other in [(ring, fine), (fine, ring), (ring, made(SHADE))]:
            call = alike(one, other, "shade")
            self.assertEqual((list(call), type(call["size"])), (["size"], int))
        self.assertEqual(alike(made(PLAIN), made(PLAIN, *[changed(part) for part in self.plain_ring()]), "plain"), {})

    def plain_ring(self):
        return [Part("plain", NONE, before=["b"]), Part("plain", NONE, before=["a"])]

    def test_drawn_hosts_against_one_another(self):
        rng = random.Random(1)
        none = 0
        for hook in HOOKS:
            calls = grid(hook, 4)
            for _ in range(40):
                many = rng.choice([0, 1, 1, 2, 3])
                one, other = [host_for(rng, [hook], many, deep=rng.choice([0, 1, 2])) for _ in range(2)]
                none += self.check(one, other, hook.name, rng.sample(calls, min(15, len(calls)))) is None
        self.assertGreater(none, 20)

    def test_written_otherwise(self):
        rng = random.Random(2)
        for host, name in drawn(150, 2, many=(1, 2, 3, 4), wishing=0.4):
            other = written_otherwise(rng, host, name)
            self.assertIsNone(alike(host, other, name))
            self.assertIsNone(alike(other, host, name))

    def test_one_thing_otherwise(self):
        rng = random.Random(3)
        told = []
        for host, name in drawn(240, 3, many=(1, 2, 3, 4)):
            parts = reckoning.parts_of(host, name)
            which = rng.choice(list(parts))
            part = parts[which]
            others = [each for each in parts if each != which]
            body = host_for(rng, [host.hook_of(name)], 1, wrapping=0, deep=1)
            how = rng.choice([
                {"layer": rng.choice(["early", "middle", "late"])}, {"before": rng.sample(others, min(1, len(others)))},
                {"before": [], "after": []}, {"body": reckoning.parts_of(body, name)[body.by_age[0]].body},
            ])
            other = with_plugins(host, [host[each] for each in host.by_age])
            other[which] = Plugin(which, [changed(part, **how)])
            if not has_order(other, name):
                self.assertIsNotNone(alike(host, other, name))
                continue
            calls = grid(host.hook_of(name), 4)
            told.append(self.check(host, other, name, rng.sample(calls, min(15, len(calls)))) is None)
        self.assertGreater(min(sum(told), len(told) - sum(told)), 40)

    def test_at_the_ends_of_all_bounds(self):
        rng = random.Random(4)
        for host, name in drawn(60, 4, many=(2, 3)):
            other = with_plugins(host, [host[each] for each in host.by_age[1:]])
            if has_order(other, name):
                calls = calls_beside([*table(host, name), *table(other, name)], host.hook_of(name))
                self.check(host, other, name, rng.sample(calls, min(60, len(calls))))

    def test_at_the_limits(self):
        rng = random.Random(5)
        for hook in WIDE:
            for wrappers in (0, 2):
                host = full_host(rng, [hook], 1000, wrappers)
                self.assertIsNone(alike(host, host, hook.name))
                self.assertIsNone(alike(host, written_otherwise(rng, host, hook.name), hook.name))
                name = rng.choice(list(reckoning.parts_of(host, hook.name)))
                calls = [some_call(rng, hook, 1000) for _ in range(10)]
                self.check(host, host - name, hook.name, calls)

    def test_other_hooks_do_not_count(self):
        one, other = Host([SHADE, TRIM]), Host([LIST, SHADE])
        one.add(Plugin("a", [Part("shade", ("number", 1)), Part("trim", ("number", 5))]))
        other.add(Plugin("b", [Part("shade", ("number", 1)), Part("list", ("number", 5))]))
        self.assertIsNone(alike(one, other, "shade"))

    def test_errors(self):
        self.assertEqual(fault(lambda: alike(made(SHADE), made(SHADE), "tint")), (NoHook, {"name": "tint"}))
        ring = made(SHADE, *RING)
        self.assertEqual(fault(lambda: alike(ring, made(SHADE), "tint")), (NoHook, {"name": "tint"}))


class Quiet(unittest.TestCase):
    def test_never_answers(self):
        self.assertIsNone(quiet(made(SHADE, NONE, ("number", 1)), "a"))
        self.assertIsNone(quiet(made(TRIM, ("param", "size"), ("number", 1)), "a"))
        host = made(SHADE, ("number", 1)) + Plugin("z", [])
        self.assertIsNone(quiet(host, "z"))
        self.assertEqual(quiet(host, "a")[0], "shade")

    def test_brings_wishes(self):
        host = made(SHADE, ("number", 1), Part("shade", NONE, after=["a"], before=["c"]), ("number", 2))
        self.assertEqual(quiet(host, "b"), ("shade", {"size": 0}))

    def test_brings_a_ring(self):
        host = made(SHADE, ("number", 1), Part("shade", NONE, after=["a"], before=["a"]))
        hook, call = quiet(host, "b")
        self.assertEqual((hook, list(call)), ("shade", ["size"]))

    def test_a_ring_with_and_without(self):
        host = made(SHADE, *RING, ("number", 1))
        self.assertIsNone(quiet(host, "c"))

    def test_the_alphabetically_first_hook(self):
        host = Host([TRIM, SHADE, LIST])
        host.add(Plugin("a", [Part("trim", ("number", 1)), Part("shade", ("number", 1)), Part("list", NONE)]))
        host.add(Plugin("b", [Part("trim", ("number", 1))]))
        self.assertEqual(quiet(host, "a")[0], "shade")
        self.assertIsNone(quiet(host, "b"))
        host["a"] = Plugin("a", [Part("trim", ("number", 2)), Part("shade", NONE)])
        self.assertEqual(quiet(host, "a")[0], "trim")

    def test_against_alike(self):
        rng = random.Random(6)
        none = 0
        for _ in range(60):
            host = host_for(rng, [TRIM, SHADE, LIST], 4, rings=True, bringing=0.5, deep=1)
            for name in host.by_age:
                other = with_plugins(host, [host[each] for each in host.by_age if each != name])
                expected = [hook for hook in ("list", "shade", "trim") if alike(host, other, hook) is not None]
                told = quiet(host, name)
                none += told is None
                self.assertEqual(told is None, not expected)
                if told is not None:
                    hook, call = told
                    self.assertEqual(hook, expected[0])
                    if has_order(host, hook) and has_order(other, hook):
                        self.assertNotEqual(
                            set(reckoning.results_in(host, hook, call)), set(reckoning.results_in(other, hook, call)))
        self.assertGreater(none, 20)

    def test_errors_and_no_change(self):
        host = made(SHADE, NONE, ("number", 1))
        self.assertEqual(fault(lambda: quiet(host, "z")), (NoPlugin, {"name": "z"}))
        quiet(host, "a")
        self.assertEqual((host.by_age, len(host.log())), (("a", "b"), 2))


class Deciders(unittest.TestCase):
    def test_first(self):
        host = made(SHADE, ("if", ("most", "size", 0), ("number", 1), NONE), Part("shade", ("number", 2), after=["a"]),
                    Part("shade", NONE, after=["b"]))
        self.assertEqual(deciders(host, "shade", {"size": 0}), ("a",))
        self.assertEqual(deciders(host, "shade", {"size": 1}), ("a", "b"))

    def test_wrappers(self):
        asks = ("if", ("most", "size", 0), ("ask", (), ("param", "inner"), None), NONE)
        host = made(SHADE, ("number", 1), Part("shade", asks, wraps=True))
        self.assertEqual(deciders(host, "shade", {"size": 0}), ("a", "b"))
        self.assertEqual(deciders(host, "shade", {"size": 1}), ("b",))
        self.assertEqual(deciders(made(SHADE), "shade", {"size": 1}), ())

    def test_against_all_orders(self):
        rng = random.Random(7)
        for host, name in drawn(150, 7, many=(0, 1, 2, 3, 4, 5)):
            for _ in range(3):
                call = some_call(rng, host.hook_of(name))
                expected, told = set(), set()
                for order in reckoning.orders_in(host, name):
                    expected |= {event[1] for event in reckoning.reckon(host, name, call, order)[1]}
                    told |= {event[1] for event in trace(host, name, call, order=order)}
                self.assertEqual(deciders(host, name, call), tuple(sorted(expected)))
                self.assertEqual(told, expected)

    def test_errors(self):
        ring = made(SHADE, *RING)
        self.assertEqual(fault(lambda: deciders(ring, "tint", {})), (NoHook, {"name": "tint"}))
        self.assertEqual(
            fault(lambda: deciders(ring, "shade", {"size": 1})), (Barred, {"hook": "shade", "names": ("a", "b")}))


class Conventions(unittest.TestCase):
    def test_by_name(self):
        one, other = made(SHADE, ("number", 1)), made(SHADE, ("number", 2))
        self.assertEqual(alike(hook="shade", other=other, host=one), alike(one, other, "shade"))
        self.assertEqual(quiet(name="a", host=one), quiet(one, "a"))
        self.assertEqual(deciders(call={"size": 1}, hook="shade", host=one), ("a",))
        self.assertEqual(
            [str(inspect.signature(work)) for work in (alike, quiet, deciders)],
            ["(host, other, hook)", "(host, name)", "(host, hook, call)"])

    def test_nothing_changes(self):
        call = {"size": 1}
        one, other = made(SHADE, ("number", 1), NONE), made(SHADE, ("fail", "x"))
        first = (alike(one, other, "shade"), quiet(one, "b"), deciders(one, "shade", call))
        self.assertEqual((alike(one, other, "shade"), quiet(one, "b"), deciders(one, "shade", call)), first)
        self.assertEqual(call, {"size": 1})
        self.assertEqual((one, other), (made(SHADE, ("number", 1), NONE), made(SHADE, ("fail", "x"))))

    def test_a_hook_that_is_equal_but_not_the_same(self):
        again = Hook("shade", "first", [("size", "number")])
        self.assertIsNone(alike(made(SHADE, ("fail", "x")), made(again, ("fail", "x")), "shade"))
        self.assertEqual(Failure("x", "a"), Failure("x", "a"))


if __name__ == "__main__":
    unittest.main()
