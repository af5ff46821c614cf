"""[17] The one form and alike expressions; [4] ALIKE and ONE FORM for them."""

from fractions import Fraction

from helpers import (
    Case, disguised, many_tables, random_expression, random_store, random_term, searched, seeded, told_places)
from slotsums.errors import OtherSorts, OtherTable
from slotsums.expressions import Expression
from slotsums.forms import are_alike, one_form
from slotsums.ratios import Ratio
from slotsums.shapes import one_shape
from slotsums.tables import Table
from slotsums.terms import Term

A = Table("A", ["r", "r"])
S = Table.symmetric("S", "r", 2)
T = Table.alternating("T", "r", 2)
U = Table("U", ["r"])


def cases(number, many, most_terms=4):
    """Tuples (chance, tables, sorts, expression)."""
    chance = seeded(number)
    for _ in range(many):
        tables = chance.sample(many_tables(), chance.randint(1, 3))
        sorts = [chance.choice("rs") for _ in range(chance.randint(0, 2))]
        yield chance, tables, sorts, random_expression(chance, tables, sorts, most_terms, most_names=3, most_factors=3)


def rewritten(chance, expression):
    """An alike expression: terms are split, written otherwise, shuffled, and some that cancel are added."""
    terms = []
    for term in expression.terms():
        for number in (Ratio(1, 3), Ratio(2, 3)):
            sign, other = disguised(chance, term)
            terms.append(other.with_number(term.number * number * sign))
        if chance.random() < 0.3:
            sign, other = disguised(chance, term)
            terms.extend([term.with_number(5), other.with_number(-5 * sign)])
    chance.shuffle(terms)
    return Expression(expression.sorts(), terms)


def rank(rows):
    """How many of the rows are independent."""
    rows = [list(row) for row in rows]
    found = 0
    for at in range(len(rows[0]) if rows else 0):
        lead = next((row for row in rows[found:] if row[at]), None)
        if lead is None:
            continue
        rows.remove(lead)
        rows.insert(found, lead)
        for k in range(found + 1, len(rows)):
            times = Fraction(rows[k][at]) / lead[at]
            rows[k] = [value - times * own for value, own in zip(rows[k], lead)]
        found += 1
    return found


class OneFormTest(Case):
    def test_example(self):
        s, t = Table.symmetric("S", "row", 2), Table.alternating("T", "row", 2)
        mixed = Term([], [(s, ("i", "j")), (t, ("i", "j"))])
        back, forth = Term([], [(t, ("i", "j")), (t, ("j", "i"))]), Term([], [(t, ("p", "q")), (t, ("p", "q"))])
        total = Expression([], [back, forth, mixed])
        self.assertEqual([one_form(total).terms(), are_alike(total, Expression.zero([]))], [(), True])

    def test_form(self):
        """One shapes with numbers other than 0, no two of one shape, and the same values."""
        for chance, tables, sorts, one in cases(17, 120):
            form = one_form(one)
            self.assertIs(type(form), Expression)
            self.assertEqual(form.sorts(), tuple(sorts))
            shapes = []
            for term in form.terms():
                self.assertNotEqual(term.number, Ratio(0))
                self.assertEqual(one_shape(term), (1, term.with_number(1)))
                self.assertNotIn(term.with_number(1), shapes)
                shapes.append(term.with_number(1))
            store = random_store(chance, tables, {"r": 3, "s": 2})
            self.assertEqual(searched(form, store), searched(one, store))
            self.assertEqual(one_form(form), form)
            self.assertEqual(one_form(expression=one), form)

    def test_alike_expressions_have_equal_forms(self):
        for chance, tables, sorts, one in cases(18, 120):
            other = rewritten(chance, one)
            self.assertEqual(one_form(one), one_form(other))
            self.assertIs(are_alike(one, other), True)
            self.assertIs(are_alike(other, one), True)

    def test_unlike_expressions(self):
        """Expressions are alike exactly if no store tells them apart: tried with some stores of numbers without pattern."""
        seen = set()
        for chance, tables, sorts, one in cases(19, 100, 2):
            other = random_expression(chance, tables, sorts, 2, most_names=3, most_factors=2)
            alike = are_alike(one, other)
            seen.add(alike)
            stores = [random_store(chance, tables, {"r": 4, "s": 3}, 0.8) for _ in range(4)]
            self.assertEqual(alike, all(searched(one, store) == searched(other, store) for store in stores))
        self.assertEqual(seen, {True, False})

    def test_fewest_terms(self):
        """The terms of a form are independent, so that no alike expression has fewer."""
        for chance, tables, sorts, one in cases(20, 25, 5):
            form = one_form(one)
            stores = [random_store(chance, tables, {"r": 4, "s": 3}, 0.9) for _ in range(8)]
            rows = []
            for term in form.terms():
                single = Expression(sorts, [term])
                values = [(searched(single, store), told_places(single, store)) for store in stores]
                rows.append([found.get(told, 0) for found, places in values for told in places])
            self.assertEqual(rank(rows), len(rows))

    def test_sixty_terms(self):
        chance = seeded(60)
        tables = chance.sample(many_tables(), 4)
        for sorts in ([], ["r"], ["s", "r"]):
            row = [random_term(chance, tables, told_sorts=sorts, most_factors=5, most_names=4) for _ in range(30)]
            one = Expression(sorts, row)
            pairs = [disguised(chance, term) for term in row]
            other = Expression(sorts, [term.with_number(term.number * sign) for sign, term in pairs[::-1]])
            self.assertIs(are_alike(one, other), True)
            self.assertEqual(len((one - other).terms()), 60)
            self.assertEqual(one_form(one - other), Expression.zero(sorts))
            self.assertEqual(one_form(one + other), one_form(one * 2))
        full = Expression([], [Term([], [(U, ("i",))] * (k % 7) + [(S, ("i", "j"))], k) for k in range(60)])
        self.assertEqual(len(one_form(full).terms()), 7)
        self.assertIs(are_alike(full, full), True)

    def test_small(self):
        self.assertEqual(one_form(Expression.zero(["r"])), Expression.zero(["r"]))
        five = Expression([], [Term([], [], 2), Term([], [], 3)])
        self.assertEqual(one_form(five), Expression([], [Term([], [], 5)]))
        self.assertEqual(one_form(five * 0), Expression.zero([]))
        self.assertEqual(one_form(five - five), Expression.zero([]))

    def test_fractions(self):
        term = Term([], [(A, ("i", "j"))])
        total = Expression([], [term.with_number(Ratio(1, 6)), Term([], [(A, ("x", "i"))], Ratio(1, 3))])
        self.assertEqual([one.number for one in one_form(total).terms()], [Ratio(1, 2)])

    def test_arguments_stay(self):
        one = Expression([], [Term([], [(A, ("i", "j"))], 2)])
        one_form(one)
        are_alike(one, one)
        self.assertEqual(one, Expression([], [Term([], [(A, ("i", "j"))], 2)]))


class AlikeTest(Case):
    def test_known(self):
        trace = Expression([], [Term([], [(A, ("i", "j")), (A, ("j", "k")), (A, ("k", "i"))])])
        turned = Expression([], [Term([], [(A, ("b", "c")), (A, ("a", "b")), (A, ("c", "a"))])])
        other = Expression([], [Term([], [(A, ("i", "j")), (A, ("j", "k")), (A, ("i", "k"))])])
        self.assertEqual([are_alike(trace, turned), are_alike(trace, other), are_alike(one=turned, other=trace)],
                         [True, False, True])
        squared = Expression([], [Term([], [(A, ("i", "i")), (A, ("j", "j"))])])
        around = Expression([], [Term([], [(A, ("i", "j")), (A, ("j", "i"))])])
        self.assertIs(are_alike(squared, around), False)

    def test_other_sorts(self):
        unlike = Expression([], [Term([], [(Table("A", ["r"]), ("i",))])])
        own = Expression(["r"], [Term([("i", "r")], [(A, ("i", "i"))])])
        self.refuses(OtherSorts, {"position": 0}, are_alike, unlike, own)
        rows = [(["r"], ["s"], 0), (["r", "s"], ["r"], 1), ([], ["r"], 0), (["r", "r", "s"], ["r", "s"], 1)]
        for one, other, position in rows:
            self.refuses(OtherSorts, {"position": position}, are_alike, Expression.zero(one), Expression.zero(other))
            self.refuses(OtherSorts, {"position": position}, are_alike, Expression.zero(other), Expression.zero(one))

    def test_other_table(self):
        one = Expression([], [Term([], [(U, ("i",)), (A, ("i", "i"))], 0)])
        other = Expression([], [Term([], [(Table("U", ["s"]), ("i",)), (T.renamed("A"), ("j", "j"))])])
        self.refuses(OtherTable, {"name": "A"}, are_alike, one, other)
        self.refuses(OtherTable, {"name": "A"}, are_alike, other, one)

    def test_sixty_terms_each(self):
        """The difference is not formed: both sides may have sixty terms."""
        one = Expression([], [Term([], [(U, ("i",))])] * 60)
        other = Expression([], [Term([], [(U, ("x",))], 60)])
        self.assertEqual([are_alike(one, one), are_alike(one, other)], [True, True])
