"""Rows: points [2], [4] (one order or a ring, exchanges), [20], [21], [22], [23]."""

import itertools
import random
import unittest
import unittest.mock

from hookrow.rows import Row

# By age; not in the order of the alphabet, so that the two are told apart.
AGES = ("d", "b", "f", "a", "c", "e")


def row_of(letters, pairs=()):
    """The row of names of one letter."""
    return Row(list(letters), pairs)


def small_rows():
    """All rows of up to three names, and many of four to six."""
    rng = random.Random("rows")
    for many in range(7):
        names = AGES[:many]
        wishes = list(itertools.permutations(names, 2))
        if many < 4:
            for number in range(len(wishes) + 1):
                for pairs in itertools.combinations(wishes, number):
                    yield names, pairs
        else:
            for _ in range(60):
                yield names, [rng.choice(wishes) for _ in range(rng.randrange(2 * many))]
            for _ in range(40):
                order = rng.sample(names, many)
                fitting = list(itertools.combinations(order, 2))
                yield names, rng.sample(fitting, rng.randrange(many + 2))


def orders_of(names, pairs):
    """All orders that keep a row, by a look at all of them; ascending by age."""
    return [
        order for order in itertools.permutations(names)
        if all(order.index(one) < order.index(other) for one, other in pairs)
    ]


def reached(names, pairs):
    """All (x, y) such that x is ahead of y."""
    ahead = set(pairs)
    for middle, one, other in itertools.product(names, repeat=3):
        if (one, middle) in ahead and (middle, other) in ahead:
            ahead.add((one, other))
    return ahead


def shortest_way(pairs, one, other):
    """The number of names in the shortest chain, at least two, or None."""
    here = {one}
    for many in range(2, 9):
        here = {after for before, after in pairs if before in here}
        if other in here:
            return many
    return None


class MadeRows(unittest.TestCase):
    def test_attributes(self):
        for form in (list, tuple):
            row = Row(form(["b", "a", "c"]), form([("b", "a"), ("a", "c"), ("b", "a"), ("a", "b")]))
            self.assertEqual(row.names, ("b", "a", "c"))
            self.assertEqual(row.pairs, (("a", "b"), ("a", "c"), ("b", "a")))
            self.assertIs(type(row.names), tuple)
            self.assertIs(type(row.pairs), tuple)

    def test_none_to_six_names(self):
        for many in range(7):
            row = Row(AGES[:many])
            self.assertEqual(row.names, AGES[:many])
            self.assertEqual(row.pairs, ())
            self.assertEqual(len(row), many)
            self.assertEqual(row.order, AGES[:many])
            self.assertIsNone(row.ring)

    def test_pairs_repeated_and_in_any_order(self):
        pairs = [("a", "b"), ("c", "a"), ("b", "d")]
        for each in itertools.permutations(pairs + [("c", "a")]):
            self.assertEqual(Row(AGES, each).pairs, (("a", "b"), ("b", "d"), ("c", "a")))

    def test_by_name(self):
        row = Row(pairs=[("a", "b")], names=["b", "a"])
        self.assertEqual((row.names, row.pairs), (("b", "a"), (("a", "b"),)))
        self.assertTrue(row.keeps(order=("a", "b")))
        self.assertTrue(row.ahead(one="a", other="b"))
        self.assertEqual(row.chain(other="b", one="a"), ("a", "b"))
        self.assertEqual(row.count(names=["a"]), 1)
        self.assertEqual(row.with_wish(other="a", one="b").pairs, (("a", "b"), ("b", "a")))
        self.assertEqual(row.without(name="a").names, ("b",))
        self.assertEqual(row.freed(name="a"), ())
        self.assertTrue(row.within(other=row))
        self.assertEqual(row.exchanges(one=("a", "b"), other=("a", "b")), (("a", "b"),))
        self.assertEqual(row.free_at(order=("a", "b")), ())

    def test_what_was_passed_is_changed_behind(self):
        names, pairs = ["b", "a"], [("a", "b")]
        row = Row(names, pairs)
        names.append("c")
        pairs.clear()
        self.assertEqual((row.names, row.pairs), (("b", "a"), (("a", "b"),)))
        self.assertEqual(row.order, ("a", "b"))

    def test_what_is_passed_is_not_changed(self):
        names, pairs = ["b", "a", "c"], [("b", "a"), ("a", "c"), ("b", "a")]
        row = Row(names, pairs)
        self.assertEqual((names, pairs), (["b", "a", "c"], [("b", "a"), ("a", "c"), ("b", "a")]))
        order, some = ["b", "a", "c"], ["c", "a"]
        row.keeps(order), row.count(some), row.free_at(order), row.exchanges(order, order)
        self.assertEqual((order, some), (["b", "a", "c"], ["c", "a"]))


class RingsAndOrders(unittest.TestCase):
    def check_ring(self, row, fewest):
        ring = row.ring
        self.assertIs(type(ring), tuple)
        self.assertEqual(len(ring), fewest)
        self.assertEqual(len(set(ring)), fewest)
        for at in range(fewest):
            self.assertIn((ring[at - 1], ring[at]), row.pairs)
        self.assertEqual(ring[0], min(ring, key=row.names.index))

    def test_one_order_or_a_ring(self):
        """Point [4]."""
        for names, pairs in small_rows():
            row, orders = Row(names, pairs), orders_of(names, pairs)
            self.assertIs(row.ring is None, bool(orders))
            self.assertEqual(row.order, orders[0] if orders else None)
            if not orders:
                self.check_ring(row, min(shortest_way(pairs, one, one) or 9 for one in names) - 1)
            self.assertEqual((row.ring, row.order), (row.ring, row.order))

    def test_rings_of_two_to_six_names(self):
        for many in range(2, 7):
            for names in itertools.permutations(AGES[:many]):
                pairs = list(zip(names, names[1:] + names[:1]))
                row = Row(AGES[:many], pairs)
                self.check_ring(row, many)
                at = names.index("d")
                self.assertEqual(row.ring, names[at:] + names[:at])
                self.assertIsNone(row.order)

    def test_several_rings(self):
        row = row_of("abcdef", [("b", "c"), ("c", "d"), ("d", "b"), ("f", "e"), ("e", "f"), ("a", "b")])
        self.assertEqual(row.ring, ("e", "f"))
        row = Row(("f", "e", "d", "c", "b", "a"), [("b", "c"), ("c", "d"), ("d", "b"), ("f", "e"), ("e", "f")])
        self.assertEqual(row.ring, ("f", "e"))
        row = row_of("abcd", [("a", "b"), ("b", "c"), ("c", "d"), ("d", "a"), ("d", "b")])
        self.assertEqual(row.ring, ("b", "c", "d"))
        row = row_of("abcd", [("a", "b"), ("b", "a"), ("d", "c"), ("c", "d")])
        self.assertIn(row.ring, [("a", "b"), ("c", "d")])

    def test_eldest_of_those_that_may_stand_there(self):
        self.assertEqual(Row(AGES, [("e", "d")]).order, ("b", "f", "a", "c", "e", "d"))
        self.assertEqual(Row(AGES, [("a", "d"), ("c", "b")]).order, ("f", "a", "d", "c", "b", "e"))
        self.assertEqual(Row(AGES, [("b", "d")]).order, ("b", "d", "f", "a", "c", "e"))
        self.assertIsNone(Row(AGES, [("b", "d"), ("d", "b")]).order)

    def test_keeps(self):
        for names, pairs in small_rows():
            if len(names) < 5:
                row, orders = Row(names, pairs), orders_of(names, pairs)
                for order in itertools.permutations(names):
                    self.assertIs(row.keeps(order), order in orders)
                    self.assertIs(row.keeps(list(order)), order in orders)

    def test_keeps_no_other_strings(self):
        row = Row(["b", "a", "c"], [("a", "b")])
        for order in [
            (), ("a",), ("a", "b"), ("a", "c"), ("b", "c"), ("a", "b", "b"), ("a", "a", "b"), ("a", "b", "d"),
            ("", "a", "b"),
            ("a", "b", "c", "c"), ("a", "b", "c", "d"), ("a", "b", "c", ""), ("a", "b", "C"), ("a", "a", "b", "c"),
            ("b", "a", "c"), ("x", "y", "z"), ("a", "a", "a"),
        ]:
            self.assertIs(row.keeps(order), False)
            self.assertIs(row.keeps(list(order)), False)
        self.assertIs(Row([]).keeps([]), True)
        self.assertIs(Row([]).keeps(["a"]), False)

    def test_ahead(self):
        for names, pairs in small_rows():
            row, ahead = Row(names, pairs), reached(names, pairs)
            for one, other in itertools.product(names, repeat=2):
                self.assertIs(row.ahead(one, other), (one, other) in ahead)

    def test_ahead_of_itself(self):
        row = row_of("abcd", [("a", "b"), ("b", "c"), ("c", "b"), ("c", "d")])
        self.assertEqual([row.ahead(name, name) for name in "abcd"], [False, True, True, False])
        self.assertEqual([row_of("ab", [("a", "b")]).ahead(name, name) for name in "ab"], [False, False])

    def test_chain(self):
        for names, pairs in small_rows():
            row = Row(names, pairs)
            for one, other in itertools.permutations(names, 2):
                chain, fewest = row.chain(one, other), shortest_way(pairs, one, other)
                self.assertIs(chain is None, fewest is None)
                if chain is not None:
                    self.assertIs(type(chain), tuple)
                    self.assertEqual((chain[0], chain[-1], len(chain)), (one, other, fewest))
                    for pair in zip(chain, chain[1:]):
                        self.assertIn(pair, row.pairs)

    def test_chains(self):
        row = row_of("abcdef", [("a", "b"), ("b", "c"), ("c", "d"), ("d", "e"), ("b", "e"), ("c", "a")])
        self.assertEqual(row.chain("a", "e"), ("a", "b", "e"))
        self.assertEqual(row.chain("c", "e"), ("c", "d", "e"))
        self.assertEqual(row.chain("d", "e"), ("d", "e"))
        self.assertIsNone(row.chain("e", "a"))
        self.assertIsNone(row.chain("a", "f"))
        self.assertEqual(row.chain("b", "a"), ("b", "c", "a"))


class OrdersAndCounts(unittest.TestCase):
    def test_all_orders(self):
        for names, pairs in small_rows():
            row, orders = Row(names, pairs), orders_of(names, pairs)
            self.assertEqual(list(row.orders()), orders)
            self.assertEqual(row.count(), len(orders))
            self.assertEqual(row.count(None), len(orders))
            self.assertTrue(all(type(order) is tuple for order in row.orders()))

    def test_left_in_the_middle_and_begun_anew(self):
        row = row_of("abcd", [("b", "a")])
        kept = []
        for order in row.orders():
            kept.append(order)
            if len(kept) == 5:
                break
        self.assertEqual(kept, orders_of("abcd", [("b", "a")])[:5])
        self.assertEqual(list(row.orders()), orders_of("abcd", [("b", "a")]))

    def test_one_in_the_other(self):
        row = row_of("abc")
        both = [(one, other) for one in row.orders() for other in row.orders()]
        self.assertEqual(both, list(itertools.product(itertools.permutations("abc"), repeat=2)))

    def test_none_for_a_ring(self):
        for row in [row_of("ab", [("a", "b"), ("b", "a")]), row_of("abcdef", [("e", "f"), ("f", "e")])]:
            self.assertEqual(list(row.orders()), [])
            self.assertEqual(row.count(), 0)

    def test_no_names(self):
        self.assertEqual(list(Row([]).orders()), [()])
        self.assertEqual(Row(()).count(), 1)
        self.assertEqual(Row(()).order, ())

    def test_count_of_some_names(self):
        for names, pairs in small_rows():
            if len(names) in (3, 4):
                row = Row(names, pairs)
                for many in range(len(names) + 1):
                    for some in itertools.permutations(names, many):
                        between = [pair for pair in pairs if set(pair) <= set(some)]
                        expected = len(orders_of(some, between))
                        self.assertEqual(row.count(some), expected)
                        self.assertEqual(row.count(list(some)), expected)

    def test_count_of_names_that_leave_a_ring_out(self):
        row = row_of("abcd", [("a", "b"), ("b", "a"), ("c", "d")])
        for names, number in [(None, 0), (["a", "c", "d"], 3), (["a", "b"], 0), (["b"], 1), ([], 1), ((), 1)]:
            self.assertEqual(row.count(names), number)
        # Only pairs between the names count, not chains through others.
        self.assertEqual(row_of("abc", [("a", "b"), ("b", "c")]).count(["c", "a"]), 2)

    def test_more_names(self):
        names = list("abcdefgh")
        self.assertEqual(Row(names).count(), 40320)
        self.assertEqual(Row(names, [("h", "a")]).count(), 20160)
        self.assertEqual(Row(names, list(zip(names, names[1:]))).count(), 1)


class OtherRows(unittest.TestCase):
    def test_with_wish(self):
        for names, pairs in small_rows():
            row = Row(names, pairs)
            for one, other in itertools.permutations(names, 2):
                more = row.with_wish(one, other)
                self.assertEqual(more.names, row.names)
                self.assertEqual(more.pairs, tuple(sorted(set(pairs) | {(one, other)})))
            self.assertEqual((row.names, row.pairs), (names, tuple(sorted(set(pairs)))))

    def test_without(self):
        for names, pairs in small_rows():
            row = Row(names, pairs)
            for name in names:
                less = row.without(name)
                self.assertEqual(less.names, tuple(each for each in names if each != name))
                self.assertEqual(less.pairs, tuple(sorted({pair for pair in pairs if name not in pair})))
            self.assertEqual((row.names, row.pairs), (names, tuple(sorted(set(pairs)))))

    def test_freed(self):
        for names, pairs in small_rows():
            row, ahead = Row(names, pairs), reached(names, pairs)
            for name in names:
                others = [each for each in names if each != name]
                less = reached(others, [pair for pair in pairs if name not in pair])
                expected = [pair for pair in itertools.permutations(others, 2) if pair in ahead and pair not in less]
                self.assertEqual(row.freed(name), tuple(sorted(expected)))

    def test_freed_by_a_ring(self):
        self.assertEqual(row_of("ab", [("a", "b"), ("b", "a")]).freed("b"), ())
        row = row_of("bac", [("a", "c"), ("c", "a"), ("b", "c"), ("c", "b")])
        self.assertEqual(row.freed("c"), (("a", "b"), ("b", "a")))
        self.assertEqual(row.freed("a"), ())

    def test_within(self):
        one = row_of("abc", [("a", "b")])
        for other, some in [
            (one, True), (row_of("abc", [("a", "b"), ("b", "c")]), True), (row_of("cba", [("a", "b")]), True),
            (row_of("abc"), False),
            (row_of("abc", [("b", "a")]), False), (row_of("abcd", [("a", "b")]), False),
            (row_of("ab", [("a", "b")]), False),
            (row_of("abc", [("a", "c"), ("c", "b")]), False), (row_of("abd", [("a", "b")]), False), (row_of(""), False),
        ]:
            self.assertIs(one.within(other), some)
        self.assertIs(row_of("abc").within(one), True)
        self.assertIs(row_of("abcd").within(one), False)
        self.assertIs(row_of("").within(Row([])), True)

    def test_equal(self):
        one = Row(["a", "b", "c"], [("a", "b"), ("b", "c")])
        self.assertTrue(one == Row(("a", "b", "c"), (("b", "c"), ("a", "b"), ("b", "c"))))
        self.assertFalse(one != Row(("a", "b", "c"), (("b", "c"), ("a", "b"))))
        for other in [
            row_of("acb", [("a", "b"), ("b", "c")]), row_of("abc", [("a", "b")]),
            row_of("abc", [("a", "b"), ("b", "c"), ("a", "c")]),
            row_of("abcd", [("a", "b"), ("b", "c")]), row_of("abc", [("b", "a"), ("b", "c")]), Row([]),
            None, 0, True, "abc", ("a", "b", "c"), [], {}, object(), Row, unittest.mock.ANY,
        ]:
            self.assertIs(one == other, False)
            self.assertIs(one != other, True)
        self.assertEqual(Row([]), Row((), []))


class Exchanges(unittest.TestCase):
    def check(self, row, one, other):
        steps = row.exchanges(one, other)
        self.assertIs(type(steps), tuple)
        self.assertEqual((steps[0], steps[-1]), (one, other))
        turned = [pair for pair in itertools.combinations(one, 2) if other.index(pair[0]) > other.index(pair[1])]
        self.assertEqual(len(steps), len(turned) + 1)
        for step in steps:
            self.assertIs(type(step), tuple)
            self.assertTrue(row.keeps(step))
        for before, after in zip(steps, steps[1:]):
            at = [at for at in range(len(one)) if before[at] != after[at]]
            self.assertEqual(len(at), 2)
            self.assertEqual(at[1], at[0] + 1)
            self.assertEqual((before[at[0]], before[at[1]]), (after[at[1]], after[at[0]]))
            self.assertIn(at[0], row.free_at(before))

    def test_between_any_two_orders(self):
        """Point [4]."""
        for names, pairs in small_rows():
            orders = orders_of(names, pairs)
            if len(orders) <= 24:
                for one, other in itertools.product(orders, repeat=2):
                    self.check(Row(names, pairs), one, other)
            else:
                rng = random.Random(str(pairs))
                for _ in range(20):
                    self.check(Row(names, pairs), rng.choice(orders), rng.choice(orders))

    def test_both_ends(self):
        self.check(Row(AGES), AGES, AGES[::-1])
        self.assertEqual(len(Row(AGES).exchanges(AGES, AGES[::-1])), 16)
        self.assertEqual(Row(AGES).exchanges(AGES, AGES), (AGES,))
        self.assertEqual(Row([]).exchanges((), ()), ((),))
        self.assertEqual(Row(["a"]).exchanges(("a",), ("a",)), (("a",),))

    def test_free_at(self):
        for names, pairs in small_rows():
            row, orders = Row(names, pairs), orders_of(names, pairs)
            kept = set(orders)
            for order in orders[:30]:
                expected = []
                for at in range(len(order) - 1):
                    if order[:at] + (order[at + 1], order[at]) + order[at + 2:] in kept:
                        expected.append(at)
                self.assertEqual(row.free_at(order), tuple(expected))

    def test_free_at_of_few_names(self):
        self.assertEqual(Row([]).free_at(()), ())
        self.assertEqual(Row(["a"]).free_at(("a",)), ())
        self.assertEqual(row_of("ab").free_at(("b", "a")), (0,))
        self.assertEqual(row_of("ab", [("b", "a")]).free_at(("b", "a")), ())


class Examples(unittest.TestCase):
    def test_examples(self):
        row = Row(["a", "b", "c", "d"], [("b", "a"), ("a", "c")])
        self.assertEqual(row.order, ("b", "a", "c", "d"))
        self.assertEqual(row.count(), 4)
        self.assertEqual(row.freed("a"), (("b", "c"),))
        self.assertEqual(row.free_at(("b", "a", "c", "d")), (2,))
        self.assertEqual(row.with_wish("c", "b").ring, ("a", "c", "b"))
        self.assertEqual(row.exchanges(("b", "a", "c", "d"), ("b", "d", "a", "c"))[1], ("b", "a", "d", "c"))


if __name__ == "__main__":
    unittest.main()
