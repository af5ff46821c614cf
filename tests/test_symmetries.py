"""[45] Own turns."""

import itertools

from helpers import (Case, image, many_partitions, many_tables, random_expression, random_store, searched, seeded,
                     told_places, wrong_values)
from slotsums.errors import InvalidSizes, TooMany, UnknownSort
from slotsums.expressions import Expression
from slotsums.forms import are_alike
from slotsums.products import row_turned
from slotsums.ratios import Ratio
from slotsums.sizes import alike_at
from slotsums.symmetries import own_turns
from slotsums.tables import Table
from slotsums.terms import Term

A = Table("A", ["r", "r"])
T = Table.alternating("T", "r", 2)
C = Table("C", ["r", "r", "r"], ((1, 2, 0), 1))


def alone(told, factors, number=1):
    return Expression([sort for name, sort in told], [Term(told, factors, number)])


def of_table(table):
    """The expression whose values are the entries of a table."""
    names = "abcd"[:len(table.slots())]
    return alone(list(zip(names, table.slots())), [(table, tuple(names))])


class OwnTurnsTest(Case):
    def test_groups_of_tables(self):
        """The own turns of the entries of a table are its group."""
        for table in many_tables():
            self.assertEqual(own_turns(of_table(table)), table.turns())
            self.assertEqual(own_turns(expression=of_table(table), sizes={"r": 4, "s": 4}), table.turns())

    def test_small(self):
        self.assertEqual(own_turns(Expression.zero([])), [((), 1)])
        self.assertEqual(own_turns(alone([], [], 5)), [((), 1)])
        self.assertEqual(own_turns(Expression.zero(["r", "s", "r"])), [((0, 1, 2), 1), ((2, 1, 0), 1)])
        self.assertEqual(own_turns(Expression.zero(["r", "r"])), [((0, 1), 1), ((1, 0), 1)])
        product = alone([("i", "r"), ("k", "r")], [(A, ("i", "j")), (A, ("k", "j"))])
        self.assertEqual(own_turns(product), [((0, 1), 1), ((1, 0), 1)])
        less = of_table(A) - row_turned(of_table(A), [1, 0])
        self.assertEqual(own_turns(less), [((0, 1), 1), ((1, 0), -1)])
        self.assertEqual(own_turns(less, {"r": 1}), [((0, 1), 1), ((1, 0), 1)])
        self.assertEqual(own_turns(less, {"r": 2, "x": 0}), [((0, 1), 1), ((1, 0), -1)])
        self.assertEqual(own_turns(of_table(A), {"r": 1}), [((0, 1), 1), ((1, 0), 1)])
        self.assertEqual(own_turns(of_table(A), {"r": 0}), [((0, 1), 1), ((1, 0), 1)])
        self.assertEqual(own_turns(of_table(A), sizes=None), [((0, 1), 1)])
        self.assertEqual(own_turns(of_table(C)), [((0, 1, 2), 1), ((1, 2, 0), 1), ((2, 0, 1), 1)])
        self.assertEqual(own_turns(of_table(Table.alternating("T", "r", 4))), Table.alternating("T", "r", 4).turns())

    def test_direction(self):
        """The value at q, with q[k] = p[order[k]], is the sign times the value at p: the way matters."""
        table = Table("H", ["r"] * 4, ((1, 2, 3, 0), -1))
        found = own_turns(of_table(table))
        store = random_store(seeded(451), [table], {"r": 3}, dense=1)
        values = searched(of_table(table), store)
        for order, sign in found:
            for places in itertools.product(range(3), repeat=4):
                self.assertEqual(values.get(image(places, order), 0), sign * values.get(places, 0))

    def test_against_values(self):
        """Own turns hold in stores; the other orders fail in some store or by another form."""
        chance = seeded(452)
        even = odd = none = 0
        for _ in range(120):
            tables = chance.sample(many_tables()[:10], 2)
            sorts = [chance.choice("rrs") for _ in range(chance.randint(0, 3))]
            total = random_expression(chance, tables, sorts, most_factors=3)
            if chance.random() < 0.4 and len(sorts) > 1 and sorts[0] == sorts[1]:
                order = [1, 0] + list(range(2, len(sorts)))
                total = total + row_turned(total, order) * chance.choice([1, -1])
            for sizes in (None, {"r": chance.randint(0, 3), "s": chance.randint(0, 2)}):
                found = own_turns(total, sizes)
                self.assertEqual(found, sorted(set(found)))
                self.assertEqual(own_turns(total, sizes), found)
                zero = Expression.zero(sorts)
                nothing = are_alike(total, zero) if sizes is None else alike_at(total, zero, sizes)
                for order in itertools.permutations(range(len(sorts))):
                    if [sorts[at] for at in order] != sorts:
                        self.assertFalse([sign for own, sign in found if own == order])
                        continue
                    turned = row_turned(total, list(order))
                    want = [sign for sign in (-1, 1) if (
                        are_alike(total, turned * sign) if sizes is None else alike_at(total, turned * sign, sizes))]
                    self.assertEqual([sign for own, sign in found if own == order], [1] if nothing else want)
                    even += want == [1] and order != tuple(range(len(sorts)))
                    odd += want == [-1]
                    none += not want
            small = {"r": 2, "s": 2}
            store = random_store(chance, tables, small)
            values = searched(total, store)
            for order, sign in own_turns(total, small):
                for places in told_places(total, store):
                    self.assertEqual(values.get(image(places, order), 0), sign * values.get(places, 0))
        self.assertTrue(min(even, odd, none) > 3, (even, odd, none))

    def test_told(self):
        """Four told positions are allowed, five are too many, ahead of the sizes."""
        self.assertEqual(len(own_turns(Expression.zero(["r"] * 4))), 24)
        for sizes in (None, {}, 7, {"r": -1}):
            self.refuses(TooMany, {"kind": "told", "limit": 4}, own_turns, Expression.zero(["r"] * 5), sizes)

    def test_sizes(self):
        for value in wrong_values():
            if value is not None and value not in ({}, {"x": 1}):
                self.refuses(InvalidSizes, {"value": value}, own_turns, of_table(A), value)
        self.refuses(UnknownSort, {"name": "r"}, own_turns, of_table(A), {})
        self.refuses(UnknownSort, {"name": "r"}, own_turns, Expression.zero(["s", "r"]), {"s": 1})
        self.refuses(UnknownSort, {"name": "r"}, own_turns, Expression([], many_partitions()), {})

    def test_partitions(self):
        """With sizes the expression and the turned one have 4,000 partitions together at most."""
        terms = many_partitions()
        self.refuses(TooMany, {"kind": "partitions", "limit": 4000}, own_turns, Expression([], terms), {"r": 1})
        more = many_partitions(10)
        half = more[:2] + more[4:5] + more[7:20]
        self.assertEqual(own_turns(Expression([], half), {"r": 1}), [((), 1)])
        self.refuses(TooMany, {"kind": "partitions", "limit": 4000}, own_turns, Expression([], half + more[20:]),
                     {"r": 1})
        self.assertEqual(own_turns(Expression([], terms)), [((), 1)])

    def test_copies(self):
        sizes = {"r": 2}
        own_turns(of_table(A), sizes).clear()
        self.assertEqual((own_turns(of_table(A), sizes), sizes), ([((0, 1), 1)], {"r": 2}))
        halves = of_table(A) * Ratio(1, 2)
        self.assertEqual(own_turns(halves + row_turned(halves, [1, 0])), [((0, 1), 1), ((1, 0), 1)])
