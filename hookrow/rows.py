"""Rows: names, and pairs of which the first one stands before the second one."""


class Row:
    """Different names, the eldest first, and the ascending pairs of them."""

    def __init__(self, names, pairs=()):
        self.names = tuple(names)
        self.pairs = tuple(sorted({(one, other) for one, other in pairs}))

    @property
    def ring(self):
        """Some ring with the fewest names, beginning with its eldest, or None."""
        shortest = None
        # The first shortest one begins with its eldest, since the turn of each name comes by age.
        for name in self.names:
            way = _way(self.pairs, name, name)
            if way is not None and (shortest is None or len(way) < len(shortest)):
                shortest = way
        return None if shortest is None else shortest[:-1]

    @property
    def order(self):
        """The order in which each item is the eldest that may stand there, or None if there is a ring."""
        begun = ()
        while len(begun) < len(self.names):
            following = self._following(begun)
            if not following:
                return None
            begun = (*begun, following[0])
        return begun

    def keeps(self, order):
        """Whether strings are an order that keeps the row."""
        if sorted(order) != sorted(self.names):
            return False
        return all([order.index(one) < order.index(other) for one, other in self.pairs])

    def ahead(self, one, other):
        """Whether a chain of pairs leads from a name to a name."""
        return _way(self.pairs, one, other) is not None

    def chain(self, one, other):
        """Some tuple of the fewest names that leads from a name to another one, or None."""
        return _way(self.pairs, one, other)

    def orders(self):
        """Iterates over all orders that keep the row, ascending by the ages of their items."""
        todo = [] if self.order is None else [()]
        while todo:
            begun = todo.pop()
            if len(begun) == len(self.names):
                yield begun
            for name in reversed(list(self._following(begun))):
                todo.append((*begun, name))

    def count(self, names=None):
        """The number of orders that keep the row of some of its names."""
        row = self if names is None else self._among(names)
        # How many ways there are to begin with the names of a key, for all keys of one length.
        ways = {(): 1}
        for _ in row.names:
            longer = {}
            # The loop walks a list of its own, since both names stand for the same dict in turn.
            for begun, many in list(ways.items()):
                for name in row._following(begun):
                    key = tuple(sorted((*begun, name)))
                    longer[key] = longer.get(key, 0) + many
            ways = longer
        return sum(list(ways.values()))

    def with_wish(self, one, other):
        """The row with one more pair."""
        return Row(self.names, (*self.pairs, (one, other)))

    def without(self, name):
        """The row without a name and its pairs."""
        return self._among([each for each in self.names if each != name])

    def freed(self, name):
        """The pairs of other names of which the first one is ahead of the second one only by a name."""
        less = self.without(name)
        names = sorted(less.names)
        found = [(one, other) for one in names for other in names if one != other]
        return tuple([(one, other) for one, other in found if self.ahead(one, other) and not less.ahead(one, other)])

    def within(self, other):
        """Whether another row has the same set of names, and all pairs of this one."""
        return sorted(self.names) == sorted(other.names) and all([pair in other.pairs for pair in self.pairs])

    def exchanges(self, one, other):
        """Orders from one to the other that keep the row, each by an exchange of neighbours in the one before it."""
        steps = [tuple(one)]
        while steps[-1] != tuple(other):
            steps.append(_nearer(steps[-1], other))
        return tuple(steps)

    def free_at(self, order):
        """The indexes at which an item of an order and its successor can be exchanged."""
        return tuple([at for at in range(len(order) - 1) if (order[at], order[at + 1]) not in self.pairs])

    def __len__(self):
        return len(self.names)

    def __eq__(self, other):
        return isinstance(other, Row) and self.names == other.names and self.pairs == other.pairs

    def _among(self, names):
        """The row of some of the names, with the pairs between them."""
        pairs = [(one, other) for one, other in self.pairs if one in names and other in names]
        return Row([name for name in self.names if name in names], pairs)

    def _following(self, begun):
        """The names, by age, that may stand next in an order that begins with some names."""
        waiting = [other for one, other in self.pairs if one not in begun]
        return [name for name in self.names if name not in begun and name not in waiting]


def _way(pairs, one, other):
    """A tuple of the fewest names that leads by at least one pair from a name to a name, or None."""
    seen = {}
    ways = [(one,)]
    while ways:
        longer = []
        # The loop walks a list of its own, since both names stand for the same list in turn.
        for way in list(ways):
            for name in [behind for before, behind in pairs if before == way[-1]]:
                if name == other:
                    return (*way, name)
                if name not in seen:
                    seen[name] = True
                    longer.append((*way, name))
        ways = longer
    return None


def _nearer(order, goal):
    """The order with the first two neighbours exchanged that stand the other way round in another order."""
    at = 0
    while goal.index(order[at]) < goal.index(order[at + 1]):
        at = at + 1
    return (*order[:at], order[at + 1], order[at], *order[at + 2:])
