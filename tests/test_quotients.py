"""Unlike values, counts of shapes, unlike forms, and unlike values as expressions."""

from helpers import (Case, as_fractions, disguised, fraction, many_partitions, many_tables, random_expression,
                     random_store, random_term, searched, searched_partitions, searched_quotient, searched_renamings,
                     searched_unlike, seeded, wrong_values)
from slotsums.errors import InvalidSizes, OtherTable, TooMany, UnknownSort
from slotsums.expressions import Expression
from slotsums.quotients import as_plain, shape_count, unlike_form, unlike_value
from slotsums.ratios import Ratio
from slotsums.shapes import is_nought, one_shape
from slotsums.stores import Store
from slotsums.tables import Table
from slotsums.terms import Term
from slotsums.values import value_of

LINKS = Table("A", ["row", "row"])
ROWS = Table("V", ["row"])
SWAP = Table.alternating("T", "row", 2)


def searched_count(term, shape):
    """The count of the one shape of a shape that is not nought, times its sign, by all partitions and renamings."""
    found = 0
    for partition in searched_partitions(term):
        quotient = searched_quotient(term, partition)
        if not is_nought(quotient):
            renamings = searched_renamings(quotient, shape)
            found += renamings[0][0] if renamings else 0
    return found


def small_term(chance, **limits):
    return random_term(chance, many_tables(), **limits)


class UnlikeValueTest(Case):
    def test_ordinary(self):
        store = Store({"row": 3}, (LINKS, {(0, 1): 2, (1, 0): 5, (1, 1): 7, (2, 2): 11}))
        around = Term([], [(LINKS, ("i", "j")), (LINKS, ("j", "i"))], 3)
        self.assertEqual(unlike_value(around, store), {(): Ratio(60)})
        told = Term([("i", "row")], [(LINKS, ("i", "j"))], Ratio(1, 2))
        self.assertEqual(unlike_value(term=told, store=store), {(0,): Ratio(1), (1,): Ratio(5, 2)})

    def test_against_search(self):
        chance = seeded(2)
        for _ in range(120):
            term = small_term(chance)
            tables = [table for table, names in term.factors()]
            different = list({table.name: table for table in tables}.values())
            store = random_store(chance, different, {"r": chance.randint(0, 3), "s": chance.randint(0, 2)})
            found = unlike_value(term, store)
            self.assertEqual(as_fractions(found), searched_unlike(term, store))
            self.assertEqual(list(found), sorted(found))
            self.assertEqual(unlike_value(term, store), found)

    def test_value_is_the_sum_over_quotients(self):
        chance = seeded(3)
        for _ in range(40):
            term = small_term(chance)
            different = list({table.name: table for table, names in term.factors()}.values())
            store = random_store(chance, different, {"r": 3, "s": 2})
            total = {}
            for partition in searched_partitions(term):
                for told, value in unlike_value(searched_quotient(term, partition), store).items():
                    total[told] = total.get(told, 0) + fraction(value)
            total = {told: value for told, value in total.items() if value}
            alone = Expression([sort for name, sort in term.told()], [term])
            self.assertEqual(total, as_fractions(value_of(alone, store)))

    def test_without_room(self):
        store = Store({"row": 2}, (ROWS, {(0,): 1, (1,): 1}))
        self.assertEqual(unlike_value(Term([], [(ROWS, (name,)) for name in "ijk"]), store), {})
        self.assertEqual(unlike_value(Term([], [(ROWS, (name,)) for name in "ij"]), store), {(): Ratio(2)})

    def test_edges(self):
        empty = Store({"row": 0})
        self.assertEqual(unlike_value(Term([], [], 5), Store({})), {(): Ratio(5)})
        self.assertEqual(unlike_value(Term([], [], 0), Store({})), {})
        self.assertEqual(unlike_value(Term([("i", "row")], []), empty), {})
        self.assertEqual(unlike_value(Term([("i", "row"), ("i", "row"), ("j", "row")], []), Store({"row": 2})),
                         {(0, 0, 1): Ratio(1), (1, 1, 0): Ratio(1)})
        self.assertEqual(unlike_value(Term([], [(ROWS, ("i",))]), Store({"row": 4})), {})

    def test_many_places(self):
        term = Term([], [(ROWS, (name,)) for name in "abcde"])
        store = Store({"row": 7}, (ROWS, {(place,): 1 for place in range(7)}))
        self.assertEqual(unlike_value(term, store), {(): Ratio(7 * 6 * 5 * 4 * 3)})

    def test_errors(self):
        term = Term([("i", "col")], [(LINKS, ("j", "k"))])
        other = Table.symmetric("A", "row", 2)
        unlike = Store({"row": 1, "col": 1}, (other, {(0, 0): 1}))
        self.refuses(UnknownSort, {"name": "col"}, unlike_value, term, Store({}))
        self.refuses(UnknownSort, {"name": "row"}, unlike_value, term, Store({"col": 1}))
        self.refuses(OtherTable, {"name": "A"}, unlike_value, term, unlike)
        self.refuses(UnknownSort, {"name": "col"}, unlike_value, term, Store({"row": 1}, (other, {(0, 0): 1})))
        self.refuses(OtherTable, {"name": "A"}, unlike_value, term.with_number(0), unlike)

    def test_returned_dicts_are_new(self):
        term, store = Term([], [], 5), Store({})
        unlike_value(term, store).clear()
        self.assertEqual(unlike_value(term, store), {(): Ratio(5)})


class ShapeCountTest(Case):
    def test_ordinary(self):
        around = Term([], [(LINKS, ("i", "j")), (LINKS, ("k", "i"))])
        loops = Term([], [(LINKS, ("x", "x")), (LINKS, ("x", "x"))])
        self.assertEqual(shape_count(around, loops), 1)
        self.assertEqual(shape_count(around, Term([], [(LINKS, ("i", "j")), (LINKS, ("j", "i"))])), 1)
        self.assertEqual(shape_count(around, Term([], [(LINKS, ("y", "x")), (LINKS, ("x", "z"))])), 1)
        self.assertEqual(shape_count(around, Term([], [(LINKS, ("i", "j")), (LINKS, ("i", "j"))])), 0)
        four = Term([], [(ROWS, (name,)) for name in "abcd"])
        pairs = Term([], [(ROWS, (name,)) for name in "aabb"])
        self.assertEqual(shape_count(term=four, shape=pairs), 3)

    def test_signs(self):
        one, turned = Term([("i", "row"), ("j", "row")], [(SWAP, ("i", "j"))]), [(SWAP, ("j", "i"))]
        self.assertEqual(shape_count(one, one), 1)
        self.assertEqual(shape_count(one, Term(one.told(), turned)), -1)
        self.assertEqual(shape_count(Term(one.told(), turned), one), -1)
        self.assertEqual(shape_count(one.with_number(-5), one.with_number(0)), 1)

    def test_against_search(self):
        chance = seeded(4)
        seen = []
        for _ in range(150):
            term = small_term(chance, most_names=4, most_factors=3, most_told=2)
            quotient = searched_quotient(term, chance.choice(searched_partitions(term)))
            sign, shape = disguised(chance, quotient)
            expected = 0 if is_nought(shape) else searched_count(term, shape)
            self.assertEqual(shape_count(term, shape), expected)
            seen.append(expected)
        self.assertTrue(min(seen) < 0 < max(seen) and 0 in seen)

    def test_nought_and_other_told_sorts(self):
        mixed = Term([], [(SWAP, ("i", "j")), (Table.symmetric("S", "row", 2), ("i", "j"))])
        self.assertEqual(shape_count(mixed, mixed), 0)
        self.assertEqual(shape_count(Term([], [(SWAP, ("i", "i"))]), Term([], [(SWAP, ("i", "i"))])), 0)
        told = Term([("i", "row")], [(ROWS, ("i",))])
        for other in (Term([], [(ROWS, ("i",))]), Term([("i", "row"), ("i", "row")], [(ROWS, ("i",))]),
                      Term([("i", "col")], [])):
            self.assertEqual(shape_count(told, other), 0)
        self.assertEqual(shape_count(Term([], [], 2), Term([], [], 7)), 1)
        self.assertEqual(shape_count(Term([("i", "row"), ("j", "row")], []), Term([("i", "row"), ("i", "row")], [])), 1)

    def test_errors(self):
        """Only a table in both counts, and the first of several names."""
        unlike = [(Table("A", ["row"]), ("i",)), (Table.symmetric("T", "row", 2), ("i", "j"))]
        one = Term([], [(LINKS, ("i", "j")), (SWAP, ("i", "j"))])
        self.refuses(OtherTable, {"name": "A"}, shape_count, one, Term([], unlike))
        self.refuses(OtherTable, {"name": "T"}, shape_count, one, Term([("i", "row")], unlike[1:]))
        self.assertEqual(shape_count(one, Term([], [(Table("Z", ["row"]), ("i",))])), 0)


class UnlikeFormTest(Case):
    def test_ordinary(self):
        around = Expression([], [Term([], [(LINKS, ("i", "j")), (LINKS, ("j", "i"))], Ratio(1, 2))])
        form = unlike_form(around)
        self.assertEqual([(len(term.names()), b) for term, b in sorted(form, key=lambda row: len(row[0].names()))],
                         [(1, Ratio(1, 2)), (2, Ratio(1, 2))])
        self.assertEqual([len(term.names()) for term, b in unlike_form(around, {"row": 1})], [1])
        self.assertEqual(unlike_form(expression=around, sizes={"row": 0}), [])
        self.assertEqual(unlike_form(around, None), form)
        self.assertEqual(unlike_form(around, {"row": 10 ** 9, "x": 0}), form)

    def test_what_it_has(self):
        """One shapes with room, no two alike, each with its b other than 0: by counts of each shape in each term."""
        chance = seeded(5)
        for _ in range(25):
            expression = random_expression(chance, many_tables(), ["r"], most_names=4, most_factors=3)
            for sizes in (None, {"r": 2, "s": 1}, {"r": 3, "s": 2}):
                form = unlike_form(expression, sizes)
                self.assertIsInstance(form, list)
                for term, b in form:
                    self.assertEqual(one_shape(term), (1, term))
                    self.assertIsInstance(b, Ratio)
                    self.assertNotEqual(b.sign, 0)
                    if sizes:
                        self.assertTrue(all(many <= sizes[sort] for sort, many in term.sizes().items()))
                    total = sum(fraction(own.number) * searched_count(own, term) for own in expression.terms())
                    self.assertEqual(fraction(b), total)
                self.assertTrue(all(one[0] != other[0] for k, one in enumerate(form) for other in form[:k]))
            full = unlike_form(expression)
            self.assertEqual([row for row in full if all(many <= 2 for many in row[0].sizes().values())],
                             unlike_form(expression, {"r": 2, "s": 2}))

    def test_it_is_all(self):
        """The values are the sums of the b times the unlike values of the shapes."""
        chance = seeded(6)
        for _ in range(25):
            expression = random_expression(chance, many_tables()[:8], ["r"], most_names=4, most_factors=3)
            store = random_store(chance, expression.tables(), {"r": 3, "s": 2})
            total = {}
            for term, b in unlike_form(expression, store.sizes()):
                for told, value in unlike_value(term, store).items():
                    total[told] = total.get(told, 0) + fraction(b) * fraction(value)
            self.assertEqual({told: value for told, value in total.items() if value}, searched(expression, store))

    def test_equal_for_alike_ones(self):
        """Up to size 1 a square is a round trip."""
        squared = Expression([], [Term([], [(LINKS, ("i", "i")), (LINKS, ("j", "j"))])])
        around = Expression([], [Term([], [(LINKS, ("i", "j")), (LINKS, ("j", "i"))])])
        self.assertEqual(unlike_form(squared, {"row": 1}), unlike_form(around, {"row": 1}))
        self.assertNotEqual(unlike_form(squared, {"row": 2}), unlike_form(around, {"row": 2}))
        chance = seeded(7)
        for _ in range(20):
            expression = random_expression(chance, many_tables(), ["s"])
            terms = []
            for term in expression.terms():
                sign, other = disguised(chance, term)
                terms.append(other.with_number(other.number * sign))
            chance.shuffle(terms)
            self.assertEqual(unlike_form(Expression(["s"], terms)), unlike_form(expression))

    def test_edges(self):
        self.assertEqual(unlike_form(Expression.zero(["row"]), {"row": 3}), [])
        self.assertEqual(unlike_form(Expression([], [Term([], [], 4), Term([], [], -4)])), [])
        self.assertEqual(unlike_form(Expression([], [Term([], [], 4)]), {}), [(Term([], []), Ratio(4))])
        self.assertEqual(unlike_form(Expression([], [Term([], [(SWAP, ("i", "i"))])])), [])
        self.assertEqual(unlike_form(Expression([], [Term([], [(SWAP, ("i", "j"))], 0)])), [])

    def test_errors(self):
        expression = Expression(["col"], [Term([("k", "col")], [(LINKS, ("i", "j"))])])
        for value in wrong_values():
            if value is not None and value != {} and value != {"x": 1}:
                self.refuses(InvalidSizes, {"value": value}, unlike_form, expression, value)
        self.refuses(UnknownSort, {"name": "col"}, unlike_form, expression, {})
        self.refuses(UnknownSort, {"name": "row"}, unlike_form, expression, {"col": 1})
        self.assertEqual(unlike_form(Expression([], many_partitions())), [])
        many = Expression([], many_partitions(1))
        self.refuses(TooMany, {"kind": "partitions", "limit": 4000}, unlike_form, many)
        self.refuses(TooMany, {"kind": "partitions", "limit": 4000}, unlike_form, many, {"r": 0})
        self.refuses(UnknownSort, {"name": "r"}, unlike_form, many, {})
        self.refuses(InvalidSizes, {"value": 3}, unlike_form, many, 3)

    def test_returned_lists_are_new(self):
        expression = Expression([], [Term([], [], 5)])
        unlike_form(expression).clear()
        self.assertEqual(len(unlike_form(expression)), 1)
        sizes = {}
        unlike_form(expression, sizes)
        self.assertEqual(sizes, {})


class AsPlainTest(Case):
    def test_ordinary(self):
        pair = Term([], [(ROWS, ("i",)), (ROWS, ("j",))], 3)
        plain = as_plain(term=pair)
        self.assertEqual(sorted((len(term.names()), term.number.top) for term in plain.terms()), [(1, -3), (2, 3)])
        triple = as_plain(Term([], [(ROWS, (name,)) for name in "abc"]))
        self.assertEqual(sorted((len(term.names()), term.number.top) for term in triple.terms()),
                         [(1, 2), (2, -3), (3, 1)])

    def test_against_unlike_values(self):
        chance = seeded(8)
        for _ in range(60):
            term = small_term(chance, most_factors=3)
            plain = as_plain(term)
            self.assertEqual(plain.sorts(), tuple(sort for name, sort in term.told()))
            for own in plain.terms():
                self.assertEqual(one_shape(own), (1, own.with_number(1)))
                self.assertNotEqual(own.number.sign, 0)
            shapes = [own.with_number(1) for own in plain.terms()]
            self.assertTrue(all(shape not in shapes[:k] for k, shape in enumerate(shapes)))
            different = list({table.name: table for table, names in term.factors()}.values())
            store = random_store(chance, different, {"r": chance.randint(0, 3), "s": 2})
            self.assertEqual(searched(plain, store), searched_unlike(term, store))
            self.assertEqual(as_plain(term), plain)

    def test_edges(self):
        self.assertEqual(as_plain(Term([], [], 5)), Expression([], [Term([], [], 5)]))
        self.assertEqual(as_plain(Term([("i", "row")], [], 0)), Expression.zero(["row"]))
        self.assertEqual(as_plain(Term([], [(SWAP, ("i", "i"))])), Expression.zero([]))
        twice = as_plain(Term([("i", "row"), ("i", "row"), ("j", "col")], []))
        self.assertEqual((len(twice.terms()), twice.sorts()), (1, ("row", "row", "col")))

    def test_too_many_terms(self):
        """Just 60 terms are allowed; those that fall together count once."""
        six = Term([], [(LINKS, pair) for pair in zip("abcdef", "bcdefa")])
        self.assertLessEqual(len(as_plain(six).terms()), 60)
        seven = Term([], [(LINKS, pair) for pair in zip("abcdefg", "bcdefga")])
        self.refuses(TooMany, {"kind": "terms", "limit": 60}, as_plain, seven)
        self.assertEqual(as_plain(seven.with_number(0)).terms(), ())
        same = Term([], [(ROWS, (name,)) for name in "abcdefg"])
        self.assertEqual(len(as_plain(same).terms()), 15)
        tables = [Table(name, ["row"]) for name in "ABCDE"]
        unlike = Term([], [(table, (name,)) for table, name in zip(tables, "abcde")])
        self.assertEqual(len(as_plain(unlike).terms()), 52)
