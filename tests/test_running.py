"""Running a call: points [10], [27], [28], [29], [30]."""

import inspect
import itertools
import random
import unittest

from hookrow.errors import Barred, NoHook, NoOrder
from hookrow.hooks import Hook
from hookrow.hosts import Host
from hookrow.plugins import Part, Plugin
from hookrow.running import run, trace
from hookrow.terms import Failure
from hostmaker import HOOKS, LIST, PAINT, SHADE, TELL, TINT, TRIM, drawn, fault, grid, host_for, made, some_call
import reckoning

NONE = ("none",)
SIZE = ("param", "size")
INNER = ("param", "inner")
LOW = ("if", ("most", "size", 0), ("number", 1), NONE)


def wrapper(body, hook="shade", **how):
    return Part(hook, body, wraps=True, **how)


def ask(sends=(), told=INNER, failed=None):
    return ("ask", tuple(sends), told, failed)


class Rows(unittest.TestCase):
    """Point [27]."""

    def pairs(self, **parts):
        host = Host([SHADE])
        for name, how in parts.items():
            host.add(Plugin(name, [] if how is None else [Part("shade", NONE, **how)]))
        row = host.row("shade")
        self.assertEqual(row.names, tuple(name for name in parts if parts[name] is not None))
        return row.pairs

    def test_no_pairs(self):
        self.assertEqual(self.pairs(), ())
        self.assertEqual(self.pairs(a={}), ())
        self.assertEqual(self.pairs(b={}, a={}), ())

    def test_wrappers_come_first(self):
        self.assertEqual(self.pairs(a={}, b={"wraps": True}), (("b", "a"),))
        self.assertEqual(self.pairs(a={"wraps": True}, b={"wraps": True}), ())
        self.assertEqual(self.pairs(a={"layer": "early"}, b={"wraps": True, "layer": "late"}), (("b", "a"),))

    def test_layers(self):
        layers = ["early", "middle", "late"]
        for one, other in itertools.product(layers, repeat=2):
            for wraps in (False, True):
                pairs = self.pairs(b={"layer": one, "wraps": wraps}, a={"layer": other, "wraps": wraps})
                self.assertEqual(("b", "a") in pairs, layers.index(one) < layers.index(other))
                self.assertEqual(("a", "b") in pairs, layers.index(other) < layers.index(one))

    def test_before_and_after(self):
        self.assertEqual(self.pairs(a={"before": ["b"]}, b={}), (("a", "b"),))
        self.assertEqual(self.pairs(a={}, b={"before": ["a"]}), (("b", "a"),))
        self.assertEqual(self.pairs(a={"after": ["b"]}, b={}), (("b", "a"),))
        self.assertEqual(self.pairs(a={}, b={"after": ["a"]}), (("a", "b"),))

    def test_from_both_sides_once(self):
        self.assertEqual(self.pairs(a={"before": ["b"]}, b={"after": ["a"]}), (("a", "b"),))
        self.assertEqual(
            self.pairs(a={"before": ["b"], "layer": "early"}, b={"after": ["a"], "layer": "late"}), (("a", "b"),))

    def test_names_without_a_part(self):
        self.assertEqual(self.pairs(a={"before": ["c", "z"], "after": ["y"]}, b={}, c=None), ())
        self.assertEqual(self.pairs(a={"before": ["c", "b"], "after": ["y"]}, b={}, c=None), (("a", "b"),))

    def test_rings_through_all_sources(self):
        self.assertEqual(self.pairs(a={"before": ["b"]}, b={"wraps": True}), (("a", "b"), ("b", "a")))
        self.assertEqual(self.pairs(a={"after": ["b"], "before": ["b"]}, b={}), (("a", "b"), ("b", "a")))
        host = made(
            SHADE, Part("shade", NONE, layer="early"), Part("shade", NONE, layer="late", before=["c"]),
            Part("shade", NONE))
        self.assertEqual(host.row("shade").ring, ("b", "c"))
        host = made(SHADE, wrapper(NONE, after=["c"]), Part("shade", NONE), Part("shade", NONE))
        self.assertEqual(host.row("shade").ring, ("a", "c"))

    def test_each_hook_has_wishes_of_its_own(self):
        host = Host([SHADE, TRIM])
        host.add(Plugin("a", [Part("shade", NONE, before=["b"]), Part("trim", NONE, after=["b"])]))
        host.add(Plugin("b", [Part("trim", NONE), Part("shade", NONE, layer="late")]))
        host.add(Plugin("c", [Part("trim", NONE, layer="early")]))
        self.assertEqual(host.row("shade").pairs, (("a", "b"),))
        self.assertEqual(host.row("shade").names, ("a", "b"))
        self.assertEqual(host.row("trim").pairs, (("b", "a"), ("c", "a"), ("c", "b")))
        self.assertEqual((host.row("shade").order, host.row("trim").order), (("a", "b"), ("c", "b", "a")))

    def test_drawn(self):
        rng = random.Random(27)
        rings = 0
        for _ in range(150):
            host = host_for(rng, [SHADE, TRIM, LIST], rng.randrange(6), rings=True, bringing=0.7, wishing=0.4)
            for hook in host.hooks:
                parts = reckoning.parts_of(host, hook)
                row = host.row(hook)
                self.assertEqual((row.names, row.pairs), (tuple(parts), tuple(sorted(reckoning.pairs_of(parts)))))
                self.assertEqual(list(row.orders()), reckoning.orders_in(host, hook))
                self.assertEqual(row.ring is None, bool(reckoning.orders_in(host, hook)))
                rings += row.ring is not None
        self.assertGreater(rings, 10)


class Plain(unittest.TestCase):
    """Point [28] without wrappers."""

    def test_first(self):
        self.assertIsNone(run(made(SHADE), "shade", {"size": 1}))
        self.assertIsNone(run(made(SHADE, NONE, LOW), "shade", {"size": 1}))
        self.assertEqual(run(made(SHADE, NONE, LOW, ("number", 7)), "shade", {"size": 0}), 1)
        self.assertEqual(run(made(SHADE, NONE, LOW, ("number", 7)), "shade", {"size": 1}), 7)
        self.assertEqual(run(made(SHADE, ("number", 0), ("number", 7)), "shade", {"size": 1}), 0)
        self.assertEqual(run(made(TINT, ("param", "mode")), "tint", {"size": 1, "mode": "red"}), "red")

    def test_first_fails(self):
        self.assertEqual(run(made(SHADE, NONE, ("fail", "red")), "shade", {"size": 1}), Failure("red", "b"))
        self.assertEqual(run(made(SHADE, LOW, ("fail", "red")), "shade", {"size": 0}), 1)

    def test_through(self):
        call = {"size": 3, "many": 9}
        self.assertEqual(run(made(TRIM), "trim", call), 3)
        self.assertEqual(run(made(TRIM, NONE, NONE), "trim", call), 3)
        self.assertEqual(run(made(TRIM, ("plus", "size", 1), NONE, ("plus", "size", 10)), "trim", call), 14)
        self.assertEqual(run(made(TRIM, ("plus", "many", 1), ("plus", "size", 1)), "trim", call), 11)
        self.assertEqual(run(made(TRIM, ("number", 0), ("if", ("most", "size", 0), ("number", 5), NONE)), "trim", call), 5)
        self.assertEqual(call, {"size": 3, "many": 9})

    def test_through_fails(self):
        host = made(TRIM, ("number", 0), ("if", ("most", "size", 0), ("fail", "x"), NONE), ("number", 8))
        self.assertEqual(run(host, "trim", {"size": 3, "many": 9}), Failure("x", "b"))
        self.assertEqual(run(host, "trim", {"size": 3, "many": 9}, order=["b", "a", "c"]), 8)

    def test_each(self):
        call = {"size": 3, "mode": "x"}
        self.assertEqual(run(made(LIST), "list", call), ())
        self.assertEqual(run(made(LIST, NONE), "list", call), ())
        self.assertEqual(run(made(LIST, ("number", 2), NONE, SIZE, ("number", 2)), "list", call), (2, 3, 2))
        host = made(LIST, ("number", 2), ("fail", "x"), SIZE)
        self.assertEqual(run(host, "list", call), Failure("x", "b"))

    def test_words(self):
        host = made(PAINT, ("if", ("is", "mode", "x"), ("word", "y"), NONE), ("if", ("is", "mode", "y"), ("word", "z"), NONE))
        self.assertEqual(run(host, "paint", {"mode": "x", "size": 1}), "z")
        self.assertEqual(run(host, "paint", {"mode": "x", "size": 1}, order=("b", "a")), "y")
        self.assertEqual(run(made(TELL, ("param", "mode"), ("word", "y")), "tell", {"mode": "x", "size": 1}), ("x", "y"))


class Wrappers(unittest.TestCase):
    """Points [10] and [28] with wrappers."""

    def told(self, body, *inside, size=3):
        return run(made(SHADE, wrapper(body), *inside), "shade", {"size": size})

    def test_does_not_ask(self):
        self.assertEqual(self.told(("number", 9), ("fail", "x")), 9)
        self.assertIsNone(self.told(NONE, ("number", 2)))
        self.assertEqual(self.told(("fail", "y"), ("number", 2)), Failure("y", "a"))

    def test_tells_what_is_inside(self):
        self.assertEqual(self.told(ask(), ("number", 2)), 2)
        self.assertEqual(self.told(ask(told=("plus", "inner", -5)), ("number", 2)), -3)
        self.assertEqual(self.told(ask(told=("number", 7)), ("number", 2)), 7)
        self.assertEqual(self.told(ask(told=SIZE), ("number", 2)), 3)
        self.assertIsNone(self.told(ask(told=NONE), ("number", 2)))
        self.assertEqual(self.told(ask(told=("fail", "x")), ("number", 2)), Failure("x", "a"))

    def test_nothing_answers_inside(self):
        for inside in [(), (NONE,), (NONE, NONE)]:
            self.assertIsNone(self.told(ask(), *inside))
            self.assertIsNone(self.told(ask(told=("plus", "inner", 4)), *inside))
            self.assertEqual(self.told(ask(told=("number", 4)), *inside), 4)

    def test_tests_of_inner(self):
        yes, no = ("number", 1), ("number", 0)
        for inside, lacks in [((), True), ((NONE,), True), ((("number", 0),), False)]:
            for test, expected in [
                (("lacks",), lacks), (("not", ("lacks",)), not lacks),
                (("most", "inner", 1000), not lacks), (("not", ("most", "inner", 1000)), lacks),
                (("both", ("lacks",), ("most", "inner", 5)), False),
                (("either", ("lacks",), ("most", "inner", 5)), True),
                (("most", "inner", -1), False), (("not", ("most", "inner", -1)), True),
            ]:
                self.assertEqual(self.told(ask(told=("if", test, yes, no)), *inside), int(expected), (inside, test))

    def test_tests_of_inner_words(self):
        for body, is_red in [(NONE, False), (("word", "red"), True), (("word", "blue"), False)]:
            told = ("if", ("is", "inner", "red"), ("word", "yes"), ("word", "no"))
            host = made(TINT, wrapper(ask(told=told), "tint"), body)
            self.assertEqual(run(host, "tint", {"size": 0, "mode": "red"}), "yes" if is_red else "no")

    def test_failures_inside(self):
        inside = ("fail", "x")
        self.assertEqual(self.told(ask(), inside), Failure("x", "b"))
        self.assertEqual(self.told(ask(told=("number", 1)), inside), Failure("x", "b"))
        self.assertEqual(self.told(ask(failed=("number", 1)), inside), 1)
        self.assertEqual(self.told(ask(failed=SIZE), inside), 3)
        self.assertIsNone(self.told(ask(failed=NONE), inside))
        self.assertEqual(self.told(ask(failed=("fail", "x")), inside), Failure("x", "a"))
        self.assertEqual(self.told(ask(failed=("number", 1)), ("number", 5)), 5)

    def test_sends(self):
        """What is sent, E and F are evaluated with the wrapper's own parameters."""
        hook = Hook("shade", "first", [("size", "number"), ("many", "number")], only=[("mode", "word", "x")])
        call = {"size": 1, "many": 2, "mode": "red"}
        swap = [("size", ("param", "many")), ("many", SIZE), ("mode", ("word", "blue"))]
        for body, expected in [
            (SIZE, 2), (("param", "many"), 1), (("if", ("is", "mode", "blue"), ("number", 8), NONE), 8),
            (("if", ("is", "mode", "red"), ("number", 8), NONE), None),
        ]:
            self.assertEqual(run(made(hook, wrapper(ask(swap)), body), "shade", call), expected)
        host = made(hook, wrapper(ask(swap, told=SIZE, failed=("plus", "size", 10))), ("fail", "x"))
        self.assertEqual(run(host, "shade", call), 11)
        host = made(hook, wrapper(ask(swap, told=("plus", "many", 10))), ("number", 5))
        self.assertEqual(run(host, "shade", call), 12)
        sent = ("if", ("is", "mode", "red"), ("plus", "size", 5), ("number", 0))
        self.assertEqual(run(made(hook, wrapper(ask([("size", sent)])), SIZE), "shade", call), 6)
        self.assertEqual(call, {"size": 1, "many": 2, "mode": "red"})

    def test_each_single_parameter(self):
        hook = Hook("shade", "first", [("size", "number"), ("many", "number")], only=[("deep", "number", 1)])
        names = ("size", "many", "deep")
        for name in names:
            host = made(hook, wrapper(ask([(name, ("number", 50))])), NONE)
            events = trace(host, "shade", {"size": 1, "many": 2, "deep": 3})
            inside = tuple(50 if each == name else at + 1 for at, each in enumerate(names))
            self.assertEqual(events[:2], (("asked", "a", (1, 2, 3)), ("asked", "b", inside)))

    def test_branches(self):
        body = ("if", ("most", "size", 0), ask(told=("plus", "inner", 1)), ("if", ("most", "size", 5), NONE, ask()))
        for size, expected in [(0, 3), (1, None), (6, 2)]:
            self.assertEqual(self.told(body, ("number", 2), size=size), expected)

    def test_through(self):
        call = {"size": 3, "many": 9}
        def told(body, *inside):
            return run(made(TRIM, wrapper(body, "trim"), *inside), "trim", call)
        self.assertEqual(told(ask([("size", ("plus", "size", 10))])), 13)
        self.assertEqual(told(ask([("size", ("number", 0))]), ("plus", "size", 1), ("plus", "size", 1)), 2)
        self.assertEqual(told(ask(told=SIZE), ("number", 50)), 3)
        self.assertIsNone(told(NONE, ("number", 50)))
        self.assertIsNone(told(ask(told=NONE), ("number", 50)))
        self.assertEqual(told(ask(told=("plus", "inner", 1)), ("number", 50)), 51)
        self.assertEqual(told(ask(failed=SIZE), ("number", 50), ("fail", "x")), 3)
        self.assertEqual(told(ask(), ("number", 50), ("fail", "x")), Failure("x", "c"))

    def test_two(self):
        outer = wrapper(ask([("size", ("plus", "size", 1))], ("plus", "inner", 100)))
        inner = wrapper(ask([("size", ("plus", "size", 10))], ("plus", "inner", 1000), SIZE))
        host = made(SHADE, outer, inner, SIZE)
        self.assertEqual(run(host, "shade", {"size": 0}), 1111)
        host = made(SHADE, outer, inner, ("fail", "x"))
        self.assertEqual(run(host, "shade", {"size": 0}), 101)
        self.assertEqual(run(host, "shade", {"size": 0}, order=["b", "a", "c"]), 0)
        host = made(SHADE, outer, wrapper(("fail", "y")), ("number", 1))
        self.assertEqual(run(host, "shade", {"size": 0}), Failure("y", "b"))
        host = made(SHADE, wrapper(ask(failed=("number", 6))), wrapper(("fail", "y")), ("number", 1))
        self.assertEqual(run(host, "shade", {"size": 0}), 6)
        self.assertEqual(run(host, "shade", {"size": 0}, order=("b", "a", "c")), Failure("y", "b"))
        host = made(SHADE, wrapper(ask(told=("if", ("lacks",), ("number", 4), NONE))), wrapper(NONE), ("number", 1))
        self.assertEqual(run(host, "shade", {"size": 0}), 4)


class Orders(unittest.TestCase):
    """Point [29]."""

    def test_each_order_against_a_plain_reckoning(self):
        rng = random.Random(29)
        for host, name in drawn(240, 29, many=(0, 1, 2, 3, 4, 5)):
            hook = host.hook_of(name)
            tried = reckoning.orders_in(host, name)
            for _ in range(6):
                call = some_call(rng, hook)
                before = dict(call)
                order = rng.choice(tried)
                expected, events = reckoning.reckon(host, name, call, order)
                form = rng.choice([list, tuple])
                self.assertEqual(reckoning.typed(run(host, name, call, order=form(order))), reckoning.typed(expected))
                self.assertEqual(reckoning.typed(trace(host, name, call, order=form(order))), reckoning.typed(events))
                self.assertEqual(call, before)

    def test_own_order(self):
        rng = random.Random(30)
        for host, name in drawn(120, 30):
            call = some_call(rng, host.hook_of(name))
            order = host.row(name).order
            self.assertEqual(order, reckoning.orders_in(host, name)[0])
            expected, events = reckoning.reckon(host, name, call, order)
            for how in [{}, {"order": None}, {"order": order}]:
                self.assertEqual(reckoning.typed(run(host, name, call, **how)), reckoning.typed(expected))
                self.assertEqual(trace(host, name, call, **how), events)

    def test_order_by_name_only(self):
        host = made(SHADE, LOW)
        for work in (run, trace):
            with self.assertRaises(TypeError):
                work(host, "shade", {"size": 1}, ("a",))
            self.assertEqual(str(inspect.signature(work)), "(host, hook, call, *, order=None)")
            self.assertEqual(work(host=host, hook="shade", call={"size": 1}, order=["a"]), work(host, "shade", {"size": 1}))

    def test_orders_that_do_not_keep_the_row(self):
        host = made(SHADE, Part("shade", LOW, after=["c"]), LOW, LOW)
        for order, at in [
            ([], 0), (["b"], 1), (["c", "a"], 2), (["a", "b", "c"], 0), (["b", "a", "c"], 1), (["b", "b", "a"], 1),
            (["c", "b", "b"], 2), (["c", "c"], 1), (["z"], 0), (["c", "z", "a", "b"], 1), (["c", "a", "b", "z"], 3),
            (["c", "a", "b", "a"], 3), (["c", "a", "b", "z", "a"], 3), ([""], 0), (["c", ""], 1), (["b", "c", "b"], 2),
            (["c", "b"], 2), (["a"], 0), (["before"], 0), (["c", "A", "b"], 1),
        ]:
            for form in (list, tuple):
                for work in (run, trace):
                    given = form(order)
                    told = fault(lambda: work(host, "shade", {"size": 1}, order=given))
                    self.assertEqual(told, (NoOrder, {"at": at}), order)
                    self.assertEqual(given, form(order))

    def test_every_index_of_drawn_rows(self):
        rng = random.Random(31)
        for host, name in drawn(60, 31, many=(1, 2, 3, 4), wishing=0.4):
            tried = reckoning.orders_in(host, name)
            call = some_call(rng, host.hook_of(name))
            names = [*host.by_age, "zz"]
            for _ in range(25):
                order = tuple(rng.choice(names) for _ in range(rng.randrange(len(names) + 2)))
                if rng.random() < 0.5:
                    order = tuple(rng.sample(names[:-1], len(names) - 1))[:rng.randrange(1, len(names) + 1)]
                at = [at for at in range(len(order)) if not any(each[:at + 1] == order[:at + 1] for each in tried)]
                expected = at[0] if at else len(order) if order not in tried else None
                told = fault(lambda: run(host, name, call, order=order))
                self.assertEqual(told, None if expected is None else (NoOrder, {"at": expected}))
                self.assertEqual(told, fault(lambda: trace(host, name, call, order=order)))

    def test_errors_in_turn(self):
        ring = made(SHADE, Part("shade", LOW, before=["b"]), Part("shade", LOW, before=["a"]), LOW)
        for work in (run, trace):
            for order in (None, ["a"], ["z"], ("a", "b", "c")):
                told = fault(lambda: work(ring, "shade", {"size": 1}, order=order))
                self.assertEqual(told, (Barred, {"hook": "shade", "names": ("a", "b")}))
                told = fault(lambda: work(ring, "tint", {"size": 1}, order=order))
                self.assertEqual(told, (NoHook, {"name": "tint"}))
        self.assertEqual(fault(lambda: run(Host([]), "a", {}, order=["b"])), (NoHook, {"name": "a"}))

    def test_rings_are_those_of_the_row(self):
        rng = random.Random(32)
        seen = 0
        for _ in range(120):
            host = host_for(rng, [SHADE], 4, rings=True, wishing=0.5)
            if not reckoning.orders_in(host, "shade"):
                seen += 1
                told = fault(lambda: run(host, "shade", {"size": 0}))
                self.assertEqual(told, (Barred, {"hook": "shade", "names": host.row("shade").ring}))
        self.assertGreater(seen, 10)


class Traces(unittest.TestCase):
    """Point [30]."""

    def test_example(self):
        host = made(SHADE, ("if", ("most", "size", 9), ("number", 1), NONE), ("number", 2))
        host.add(Plugin("dim", [wrapper(ask([("size", ("plus", "size", 9))], ("plus", "inner", 10)))]))
        self.assertEqual(run(host, "shade", {"size": 4}), 12)
        self.assertEqual(trace(host, "shade", {"size": 4}), (
            ("asked", "dim", (4,)), ("asked", "a", (13,)), ("told", "a", None), ("asked", "b", (13,)),
            ("told", "b", 2), ("told", "dim", 12)))

    def test_nobody_is_asked(self):
        self.assertEqual(trace(made(SHADE), "shade", {"size": 4}), ())

    def test_values_in_the_order_of_names(self):
        host = made(PAINT, ("word", "y"), NONE)
        self.assertEqual(trace(host, "paint", {"size": 4, "mode": "x"}), (
            ("asked", "a", ("x", 4)), ("told", "a", "y"), ("asked", "b", ("y", 4)), ("told", "b", None)))

    def test_a_failure_goes_on_through_a_wrapper(self):
        host = made(SHADE, wrapper(ask()), wrapper(ask()), ("fail", "x"), ("number", 1))
        failure = Failure("x", "c")
        self.assertEqual(trace(host, "shade", {"size": 4}), (
            ("asked", "a", (4,)), ("asked", "b", (4,)), ("asked", "c", (4,)), ("told", "c", failure),
            ("told", "b", failure), ("told", "a", failure)))

    def test_a_wrapper_that_does_not_ask(self):
        host = made(SHADE, wrapper(("number", 3)), ("number", 1))
        self.assertEqual(trace(host, "shade", {"size": 4}), (("asked", "a", (4,)), ("told", "a", 3)))

    def test_answers_of_through_are_seen_by_later_parts_alone(self):
        host = made(TRIM, wrapper(ask([("size", ("number", 0))], SIZE), "trim"), ("plus", "size", 1), ("plus", "size", 1))
        self.assertEqual(trace(host, "trim", {"size": 7, "many": 2}), (
            ("asked", "a", (7, 2)), ("asked", "b", (0, 2)), ("told", "b", 1), ("asked", "c", (1, 2)), ("told", "c", 2),
            ("told", "a", 7)))

    def test_run_and_trace_agree(self):
        for host, name in drawn(90, 33, many=(1, 2, 3, 4)):
            hook = host.hook_of(name)
            for call in grid(hook, 2):
                events = trace(host, name, call)
                result = run(host, name, call)
                asked = [event[1] for event in events if event[0] == "asked"]
                self.assertEqual(sorted(asked), sorted(event[1] for event in events if event[0] == "told"))
                self.assertEqual(len(asked), len(set(asked)))
                self.assertTrue(all(event[2] == tuple(call[each] for each in hook.names) for event in events[:1]))
                wraps = bool(asked) and host[asked[0]].part(name).wraps
                if wraps:
                    self.assertEqual((events[-1][1], events[-1][2]), (asked[0], result))


class Conventions(unittest.TestCase):
    def test_the_limits_and_beyond(self):
        """Integers of calls are within a million either way, and those returned may be passed on."""
        host = made(SHADE, ("plus", "size", 1000))
        for size in (10 ** 6, -10 ** 6, 10 ** 6 + 1000, 10 ** 30):
            self.assertEqual(run(host, "shade", {"size": size}), size + 1000)

    def test_again_and_again(self):
        for host, name in drawn(30, 34):
            calls = grid(host.hook_of(name), 1)
            first = [run(host, name, call) for call in calls]
            self.assertEqual([run(host, name, call) for call in calls], first)
            self.assertEqual([run(host, name, call) for call in reversed(calls)], first[::-1])

    def test_two_hooks_of_a_host(self):
        rng = random.Random(35)
        for _ in range(30):
            host = host_for(rng, HOOKS[:3], 4, bringing=0.7)
            for hook in HOOKS[:3]:
                call = some_call(rng, hook)
                order = rng.choice(reckoning.orders_in(host, hook.name))
                expected, _ = reckoning.reckon(host, hook.name, call, order)
                self.assertEqual(run(host, hook.name, call, order=order), expected)


if __name__ == "__main__":
    unittest.main()
