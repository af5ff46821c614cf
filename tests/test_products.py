"""[12], [13] Products with held positions, and what is done to one told position."""

from helpers import (
    Case, image, many_tables, random_expression, random_store, searched, seeded, told_places, wrong_values)
from slotsums.errors import (
    InvalidHeld, InvalidName, InvalidOrder, InvalidPosition, InvalidSum, OtherTable, TooMany)
from slotsums.expressions import Expression
from slotsums.products import doubled_at, held_equal, product_of, row_turned, spread_along, summed_over
from slotsums.tables import Table
from slotsums.terms import Term
from slotsums.values import value_of

A = Table("A", ["r", "r"])
B = Table("B", ["r", "s"])
U = Table("U", ["r"])
SIZES = {"r": 2, "s": 3}


def cases(number, many=60, most_told=3):
    """Tuples (chance, expression, store, values)."""
    chance = seeded(number)
    for _ in range(many):
        tables = chance.sample(many_tables(), 3)
        sorts = [chance.choice("rs") for _ in range(chance.randint(0, most_told))]
        one = random_expression(chance, tables, sorts, most_factors=3)
        store = random_store(chance, tables, SIZES)
        yield chance, one, store, searched(one, store)


class OperationsTest(Case):
    def has_values(self, result, store, sorts, many_terms, want):
        """The result has these sorts, so many terms, and at each told place the value that `want` says."""
        self.assertIs(type(result), Expression)
        self.assertEqual((result.sorts(), len(result.terms())), (tuple(sorts), many_terms))
        values = searched(result, store)
        for places in told_places(result, store):
            self.assertEqual(values.get(places, 0), want(places))

    def test_product(self):
        for chance, one, store, ones in cases(1, 80):
            sorts = [chance.choice("rs") for _ in range(chance.randint(0, 3))]
            tables = [table for table in many_tables() if len(table.slots()) < 3]
            other = random_expression(chance, chance.sample(tables, 2), sorts, most_factors=2, most_names=3)
            store = random_store(chance, {t.name: t for t in one.tables() + other.tables()}.values(), SIZES)
            ones, others = searched(one, store), searched(other, store)
            held = []
            for at in chance.sample(range(len(sorts)), len(sorts)):
                fitting = [to for to, sort in enumerate(one.sorts()) if sort == sorts[at]]
                if fitting and chance.random() < 0.6:
                    held.append((chance.choice(fitting), at))
            free = [at for at in range(len(sorts)) if at not in [second for first, second in held]]
            many = len(one.sorts())

            def want(places):
                right = [None] * len(sorts)
                for first, second in held:
                    right[second] = places[first]
                for k, at in enumerate(free):
                    right[at] = places[many + k]
                return ones.get(places[:many], 0) * others.get(tuple(right), 0)

            try:
                result = product_of(one, other, held)
            except TooMany as error:
                self.assertIn(error.kind, ("names", "factors"))
                continue
            self.has_values(result, store, list(one.sorts()) + [sorts[at] for at in free],
                            len(one.terms()) * len(other.terms()), want)
            self.assertEqual(product_of(one=one, other=other, held=tuple(held)), result)

    def test_product_of_names_told_twice(self):
        """A name told twice that is held to two names makes them one."""
        one = Expression(["r", "r"], [Term([("i", "r"), ("j", "r")], [(A, ("i", "j"))])])
        other = Expression(["r", "r"], [Term([("i", "r"), ("i", "r")], [(U, ("i",))], 2)])
        store = random_store(seeded(4), [A, U], {"r": 3}, 1)
        ones, others = searched(one, store), searched(other, store)
        self.has_values(product_of(one, other, [(0, 0), (1, 1)]), store, ["r", "r"], 1,
                        lambda places: ones.get(places, 0) * others.get(places, 0))
        self.has_values(product_of(one, other, [(0, 1)]), store, ["r", "r", "r"], 1,
                        lambda places: ones.get(places[:2], 0) * others.get((places[2], places[0]), 0))
        self.has_values(product_of(one, other, [(1, 0), (1, 1)]), store, ["r", "r"], 1,
                        lambda places: ones.get(places, 0) * others.get((places[1], places[1]), 0))
        self.has_values(product_of(other, one, [(0, 0), (1, 1)]), store, ["r", "r"], 1,
                        lambda places: ones.get(places, 0) * others.get(places, 0))

    def test_product_without_held(self):
        one = Expression(["r"], [Term([("i", "r")], [(U, ("i",))]), Term([("x", "r")], [], 3)])
        self.assertEqual(product_of(one, Expression.zero(["s"])), Expression.zero(["r", "s"]))
        self.assertEqual(len(product_of(one, one).terms()), 4)
        self.assertEqual(len(product_of(one * 0, one).terms()), 4)

    def test_summed(self):
        for chance, one, store, values in cases(2):
            for position in range(len(one.sorts())):
                size = SIZES[one.sorts()[position]]
                sorts = one.sorts()[:position] + one.sorts()[position + 1:]
                lone = [term.told()[position][0] in term.lone_names() and
                        [name for name, sort in term.told()].count(term.told()[position][0]) == 1
                        for term in one.terms()]
                if any(lone):
                    self.refuses(InvalidSum, {"position": position}, summed_over, one, position)
                    continue
                result = summed_over(one, position)
                self.has_values(result, store, sorts, len(one.terms()), lambda places: sum(
                    values.get(places[:position] + (place,) + places[position:], 0) for place in range(size)))
                self.assertEqual(summed_over(expression=one, position=position), result)

    def test_summed_lone_name_at_two_positions(self):
        one = Expression(["r", "r"], [Term([("x", "r"), ("x", "r")], [], 5)])
        result = summed_over(one, 0)
        self.assertEqual({places: str(value) for places, value in value_of(result, random_store(seeded(1), [], SIZES)).items()},
                         {(0,): "5", (1,): "5"})
        self.refuses(InvalidSum, {"position": 0}, summed_over, result, 0)
        self.refuses(InvalidSum, {"position": 0}, summed_over, result * 0, 0)

    def test_turned(self):
        for chance, one, store, values in cases(3):
            order = chance.sample(range(len(one.sorts())), len(one.sorts()))
            for given in (order, tuple(order)):
                result = row_turned(one, given)
                back = [order.index(k) for k in range(len(order))]
                self.has_values(result, store, image(one.sorts(), order), len(one.terms()),
                                lambda places: values.get(image(places, back), 0))
            self.assertEqual(row_turned(expression=one, order=order), result)

    def test_turned_direction(self):
        """The value at q is the former value at p if q[k] = p[order[k]]."""
        tables = [Table("C", ["r", "s", "t"])]
        one = Expression(["r", "s", "t"], [Term([("i", "r"), ("j", "s"), ("k", "t")], [(tables[0], ("i", "j", "k"))])])
        store = random_store(seeded(1), tables, {"r": 2, "s": 3, "t": 4}, 1)
        result = row_turned(one, [2, 0, 1])
        self.assertEqual(result.sorts(), ("t", "r", "s"))
        self.assertEqual(value_of(result, store), {(p[2], p[0], p[1]): v for p, v in sorted(
            value_of(one, store).items(), key=lambda pair: (pair[0][2], pair[0][0], pair[0][1]))})

    def test_doubled(self):
        for chance, one, store, values in cases(4):
            for position in range(len(one.sorts())):
                result = doubled_at(one, position)
                self.has_values(result, store, one.sorts() + (one.sorts()[position],), len(one.terms()),
                                lambda p: values.get(p[:-1], 0) if p[-1] == p[position] else 0)
                self.assertEqual(doubled_at(expression=one, position=position), result)

    def test_held_equal(self):
        for chance, one, store, values in cases(5, most_told=4):
            for position in range(len(one.sorts())):
                for other in range(len(one.sorts())):
                    if position == other or one.sorts()[position] != one.sorts()[other]:
                        self.refuses(InvalidPosition, {"value": other}, held_equal, one, position, other)
                        continue
                    sorts = one.sorts()[:other] + one.sorts()[other + 1:]

                    def want(places):
                        own = position if position < other else position - 1
                        return values.get(places[:other] + (places[own],) + places[other:], 0)

                    result = held_equal(one, position, other)
                    self.has_values(result, store, sorts, len(one.terms()), want)
                    self.assertEqual(held_equal(expression=one, position=position, other=other), result)

    def test_spread(self):
        for chance, one, store, values in cases(6):
            for sort in "rs":
                result = spread_along(one, sort)
                self.has_values(result, store, one.sorts() + (sort,), len(one.terms()), lambda p: values.get(p[:-1], 0))
                self.assertEqual(spread_along(expression=one, sort=sort), result)
        for names in ("abcdef", "ghabcd", "b"):
            one = Expression([], [Term([], [(U, (name,)) for name in names])])
            self.assertEqual(len(spread_along(one, "new").terms()[0].names()), len(names) + 1)

    def test_arguments_stay(self):
        one = Expression(["r", "r"], [Term([("i", "r"), ("j", "r")], [(A, ("i", "j"))])])
        held, order = [(0, 1)], [1, 0]
        product_of(one, one, held)
        row_turned(one, order)
        held_equal(one, 0, 1)
        self.assertEqual((held, order), ([(0, 1)], [1, 0]))
        self.assertEqual(one, Expression(["r", "r"], [Term([("i", "r"), ("j", "r")], [(A, ("i", "j"))])]))
        result = row_turned(one, order)
        order.reverse()
        self.assertEqual(result, row_turned(one, [1, 0]))


class WrongOperationsTest(Case):
    def setUp(self):
        self.one = Expression(["r", "s", "r"], [Term([("i", "r"), ("k", "s"), ("j", "r")], [(A, ("i", "j")), (B, ("i", "k"))])])

    def test_held(self):
        one, other = self.one, Expression.zero(["s", "r", "r"])
        for value in (None, True, 1, "x", {}, {(0, 1): 1}, range(0)):
            self.refuses(InvalidHeld, {"position": None}, product_of, one, other, value)
        wrong = [None, True, 1, "01", [0, 1], (0,), (0, 1, 2), (0, 3), (3, 1), (-1, 1), (0, -1), (True, 1), (0, True),
                 ("0", 1), (0, 0), (1, 1), (0, 2), ((0,), 1), (None, None), ()]
        for value in wrong:
            self.refuses(InvalidHeld, {"position": 1}, product_of, one, other, [(2, 2), value, None])
        for value in wrong:
            if value != (0, 2):
                self.refuses(InvalidHeld, {"position": 0}, product_of, one, other, (value,))
        self.assertEqual(product_of(one, other, [(1, 0), (0, 1), (0, 2)]).sorts(), ("r", "s", "r"))

    def test_other_table_ahead_of_held(self):
        other = Expression([], [Term([], [(Table("B", ["s"]), ("i",)), (Table("A", ["r"]), ("j",))])])
        self.refuses(OtherTable, {"name": "A"}, product_of, self.one, other, None)
        self.refuses(OtherTable, {"name": "A"}, product_of, other, self.one)

    def test_too_many(self):
        """Told, factors, names, terms: each kind for all pairs of terms, whatever pair comes first."""
        def told(kind, limit):
            return {"kind": kind, "limit": limit}

        wide = Expression(["r"], [Term([("a", "r")], [(A, ("a", "b")), (A, ("c", "d"))])])
        long = Expression(["r"], [Term([("a", "r")], [(U, ("a",))] * 4)])
        both = Expression(["r"], wide.terms() + long.terms())
        self.refuses(TooMany, told("names", 7), product_of, wide, wide)
        self.assertEqual(len(product_of(wide, wide, [(0, 0)]).terms()[0].names()), 7)
        self.refuses(TooMany, told("factors", 7), product_of, long, long)
        self.refuses(TooMany, told("factors", 7), product_of, both, both)
        self.refuses(TooMany, told("factors", 7), product_of, both * 0, both)
        self.refuses(TooMany, told("names", 7), product_of, both, wide)
        many = Expression(["r"], [Term([("a", "r")], [(U, ("a",))])] * 8)
        self.refuses(TooMany, told("terms", 60), product_of, many, many)
        self.refuses(TooMany, told("factors", 7), product_of, both + many * 2 + many * 3, both + many * 2 + many)
        self.assertEqual(len(product_of(many, Expression(["r"], many.terms()[:7])).terms()), 56)
        row = Expression(["r"] * 5, [Term([("a", "r")] * 5, [(U, ("a",))] * 4)])
        self.refuses(TooMany, told("told", 8), product_of, row, row)
        self.refuses(TooMany, told("told", 8), product_of, Expression.zero(["r"] * 5), Expression.zero(["r"] * 4))
        self.assertEqual(len(product_of(Expression.zero(["r"] * 5), Expression.zero(["r"] * 4), [(0, 0)]).sorts()), 8)
        self.refuses(InvalidHeld, {"position": None}, product_of, row, row, None)
        self.refuses(InvalidHeld, {"position": 0}, product_of, row, row, [None])

    def test_positions(self):
        for value in wrong_values() + [3, -1]:
            if value in (0, 1) and not isinstance(value, bool):
                continue
            for call in (summed_over, doubled_at):
                self.refuses(InvalidPosition, {"value": value}, call, self.one, value)
            self.refuses(InvalidPosition, {"value": value}, held_equal, self.one, value, None)
            self.refuses(InvalidPosition, {"value": value}, held_equal, self.one, 0, value)
        self.refuses(InvalidPosition, {"value": 0}, held_equal, self.one, 0, 0)
        self.refuses(InvalidPosition, {"value": 1}, held_equal, self.one, 0, 1)
        self.refuses(InvalidPosition, {"value": 9}, held_equal, self.one, 9, 9)
        for call in (summed_over, doubled_at):
            self.refuses(InvalidPosition, {"value": 0}, call, Expression.zero([]), 0)

    def test_lone_sum(self):
        one = Expression(["r", "s"], [Term([("i", "r"), ("x", "s")], [(U, ("i",))])])
        self.refuses(InvalidSum, {"position": 1}, summed_over, one, 1)
        self.refuses(InvalidSum, {"position": 1}, summed_over, one * 0, 1)
        self.assertEqual(summed_over(Expression.zero(["r", "s"]), 1), Expression.zero(["r"]))

    def test_orders(self):
        for value in wrong_values() + [[0, 1], [0, 1, 1], [0, 1, 3], [0, 1, 2, 3], [False, 1, 2], [-3, -2, -1], "012",
                                       {0: 1, 1: 2, 2: 0}, [None, 1, 2], ["0", "1", "2"]]:
            self.refuses(InvalidOrder, {"value": value}, row_turned, self.one, value)
        self.refuses(InvalidOrder, {"value": None}, row_turned, Expression.zero([]), None)
        self.assertEqual(row_turned(Expression.zero([]), ()), Expression.zero([]))

    def test_sorts(self):
        for value in wrong_values():
            if value not in ("x", "row"):
                self.refuses(InvalidName, {"value": value}, spread_along, self.one, value)

    def test_one_more_than_allowed(self):
        full = Expression(["r"] * 8, [Term([("a", "r")] * 8, [])])
        for one in (full, Expression.zero(["r"] * 8)):
            self.refuses(TooMany, {"kind": "told", "limit": 8}, doubled_at, one, 0)
            self.refuses(TooMany, {"kind": "told", "limit": 8}, spread_along, one, "r")
        seven = Expression([], [Term([], [(U, (name,)) for name in "abcdefg"])])
        self.refuses(TooMany, {"kind": "names", "limit": 7}, spread_along, seven, "r")
        self.refuses(InvalidName, {"value": None}, spread_along, full, None)
        self.refuses(InvalidPosition, {"value": 8}, doubled_at, full, 8)
        told = Expression(["r"] * 8, [Term([(name, "r") for name in "abcdefga"], [])])
        self.refuses(TooMany, {"kind": "told", "limit": 8}, spread_along, told, "r")
        self.assertEqual(len(doubled_at(Expression.zero(["r"] * 7), 0).sorts()), 8)
