"""[11] Expressions; sums, differences and multiples of [12]; the opening of stage 2 for them."""

from helpers import Case, Thing, fraction, many_tables, random_expression, random_store, searched, seeded, wrong_values
from slotsums.errors import (
    InvalidExpression, InvalidNumber, InvalidSorts, InvalidTerms, OtherSorts, OtherTable, TooMany)
from slotsums.expressions import Expression
from slotsums.ratios import Ratio, is_number
from slotsums.tables import Table
from slotsums.terms import Term

A = Table("A", ["r", "r"])
B = Table("B", ["r", "s"])
U = Table("U", ["r"])
TERM = Term([("i", "r")], [(B, ("i", "k"))], 3)
LONE = Term([("x", "r")], [], Ratio(1, 2))
LOOP = Term([("i", "r")], [(A, ("i", "j")), (A, ("j", "i"))])


class ExpressionTest(Case):
    def test_parts(self):
        total = Expression(["r"], [TERM, LONE, LOOP, TERM])
        self.assertEqual(total.sorts(), ("r",))
        self.assertEqual(total.terms(), (TERM, LONE, LOOP, TERM))
        self.assertEqual(total.tables(), [A, B])
        self.assertEqual(total.all_sorts(), ["r", "s"])
        self.assertIs(type(total.sorts()), tuple)
        self.assertIs(type(total.terms()), tuple)
        self.assertEqual(Expression(sorts=("r",), terms=(TERM, LONE, LOOP, TERM)), total)

    def test_small(self):
        total = Expression([], [])
        self.assertEqual((total.sorts(), total.terms(), total.tables(), total.all_sorts()), ((), (), [], []))
        self.assertEqual(Expression(["z", "a", "z"], []).all_sorts(), ["a", "z"])

    def test_tables_of_terms_with_the_number_0(self):
        self.assertEqual(Expression(["r"], [TERM.with_number(0)]).tables(), [B])

    def test_zero(self):
        self.assertEqual(Expression.zero(["r", "s"]), Expression(["r", "s"], []))
        self.assertEqual(Expression.zero(sorts=()), Expression([], []))
        for value in (None, "r", {"r": 1}, True):
            self.refuses(InvalidSorts, {"position": None}, Expression.zero, value)
        self.refuses(InvalidSorts, {"position": 1}, Expression.zero, ["r", None])
        self.refuses(TooMany, {"kind": "told", "limit": 8}, Expression.zero, ["r"] * 9)

    def test_equal(self):
        total = Expression(["r"], [TERM, LONE])
        self.assertEqual(total, Expression(("r",), (TERM.with_number(Ratio(3)), LONE)))
        for other in (Expression(["r"], [LONE, TERM]), Expression(["r"], [TERM]), Expression.zero(["r"]),
                      Expression.zero(["s"]), None, TERM, (("r",), (TERM, LONE)), Thing()):
            self.assertFalse(total == other)
            self.assertTrue(total != other)
        self.assertFalse(Expression.zero(["r"]) == Expression.zero(["s"]))

    def test_copies(self):
        sorts, terms = ["r"], [TERM]
        total = Expression(sorts, terms)
        sorts.append("s")
        terms.append(LONE)
        total.tables().clear()
        total.all_sorts().clear()
        self.assertEqual(total, Expression(["r"], [TERM]))
        self.assertEqual((total.tables(), total.all_sorts()), ([B], ["r", "s"]))

    def test_sixty_terms(self):
        total = Expression(["r"], [LONE] * 60)
        self.assertEqual(len(total.terms()), 60)
        self.assertEqual(len((Expression(["r"], [LONE] * 20) + Expression(["r"], [LONE] * 40)).terms()), 60)


class ArithmeticTest(Case):
    def test_terms(self):
        """One term for each term of the arguments."""
        one, other = Expression(["r"], [TERM, LONE]), Expression(["r"], [LOOP])
        self.assertEqual([len(found.terms()) for found in (one + other, one - other, -one, one * 0, one * 2)],
                         [3, 3, 2, 2, 2])
        self.assertEqual(one + Expression.zero(["r"]), one)

    def test_values(self):
        chance = seeded(12)
        for _ in range(40):
            tables = chance.sample(many_tables(), 3)
            sorts = [chance.choice("rs") for _ in range(chance.randint(0, 2))]
            one, other = [random_expression(chance, tables, sorts) for _ in range(2)]
            number = chance.choice([0, 1, -2, Ratio(2, 3)])
            store = random_store(chance, tables, {"r": 2, "s": 2})
            ones, others = searched(one, store), searched(other, store)
            rows = [(one + other, lambda p: ones.get(p, 0) + others.get(p, 0)),
                    (one - other, lambda p: ones.get(p, 0) - others.get(p, 0)),
                    (-one, lambda p: -ones.get(p, 0)), (one * number, lambda p: ones.get(p, 0) * fraction(number))]
            for result, want in rows:
                self.assertIs(type(result), Expression)
                self.assertEqual(result.sorts(), tuple(sorts))
                values = searched(result, store)
                for places in set(values) | set(ones) | set(others):
                    self.assertEqual(values.get(places, 0), want(places))

    def test_unchanged(self):
        one, other = Expression(["r"], [TERM, LONE]), Expression(["r"], [LOOP])
        for _ in range(2):
            self.assertEqual((one + other).terms(), (TERM, LONE, LOOP))
            self.assertEqual([term.number for term in (one - other).terms()], [Ratio(3), Ratio(1, 2), Ratio(-1)])
            self.assertEqual([term.number for term in (-one).terms()], [Ratio(-3), Ratio(-1, 2)])
            self.assertEqual([term.number for term in (one * Ratio(2, 3)).terms()], [Ratio(2), Ratio(1, 3)])
        self.assertEqual((one, other), (Expression(["r"], [TERM, LONE]), Expression(["r"], [LOOP])))

    def test_wrong_right_side(self):
        one = Expression(["r"], [TERM])
        for value in wrong_values() + [TERM]:
            if not isinstance(value, Expression):
                self.refuses(InvalidExpression, {"value": value}, lambda: one + value)
                self.refuses(InvalidExpression, {"value": value}, lambda: one - value)
            if not is_number(value):
                self.refuses(InvalidNumber, {"value": value}, lambda: one * value)
        self.refuses(InvalidNumber, {"value": one}, lambda: one * one)

    def test_other_sorts(self):
        rows = [(["r"], ["s"], 0), ([], ["r"], 0), (["r"], [], 0), (["r", "s"], ["r"], 1), (["r"], ["r", "s"], 1),
                (["r", "s", "r"], ["r", "r"], 1), (["r", "s"], ["r", "s", "r"], 2)]
        for one, other, position in rows:
            self.refuses(OtherSorts, {"position": position}, lambda: Expression.zero(one) + Expression.zero(other))
            self.refuses(OtherSorts, {"position": position}, lambda: Expression.zero(one) - Expression.zero(other))

    def test_sequence(self):
        """OtherSorts, then OtherTable, then TooMany."""
        many = Expression([], [Term([], [(Table("U", ["s"]), ("i",)), (Table("A", ["s"]), ("i",))])] * 60)
        one = Expression([], [Term([], [(U, ("i",)), (A, ("i", "i"))])])
        other = Expression(["r"], [Term([("i", "r")], [(U, ("i",))])])
        self.refuses(OtherSorts, {"position": 0}, lambda: many + other)
        self.refuses(OtherTable, {"name": "A"}, lambda: many + one)
        self.refuses(OtherTable, {"name": "A"}, lambda: one - many)
        self.refuses(TooMany, {"kind": "terms", "limit": 60}, lambda: many + many)
        self.refuses(TooMany, {"kind": "terms", "limit": 60}, lambda: many - Expression([], [Term([], [], 0)]))
        self.assertEqual(len(many.terms()), 60)


class WrongExpressionTest(Case):
    def test_sorts(self):
        for value in (None, True, 1, "r", {"r": 1}, Thing(), range(1)):
            self.refuses(InvalidSorts, {"position": None}, Expression, value, None)
        for value in wrong_values():
            if value not in ("x", "row"):
                self.refuses(InvalidSorts, {"position": 0}, Expression, [value, None], None)
                self.refuses(InvalidSorts, {"position": 1}, Expression, ("r", value), None)

    def test_terms(self):
        for value in (None, True, 1, "r", {}, Thing(), TERM, range(0)):
            self.refuses(InvalidTerms, {"position": None}, Expression, ["r"], value)
        for value in wrong_values():
            if not isinstance(value, Term):
                self.refuses(InvalidTerms, {"position": 1}, Expression, ["r"], [Term([], []), value])
                self.refuses(InvalidTerms, {"position": 0}, Expression, ["r"] * 9, (value, None))

    def test_other_sorts(self):
        for sorts in ([], ["s"], ["r", "r"]):
            self.refuses(OtherSorts, {"position": 0}, Expression, sorts, [TERM, LONE])
        self.refuses(OtherSorts, {"position": 1}, Expression, ["r"], [TERM, Term([], []), Term([], [])])
        self.refuses(OtherSorts, {"position": 0}, Expression, ["r"] * 9, [TERM])

    def test_other_table(self):
        unlike = [Term([("i", "r")], [(table, ("i",))]) for table in (U, Table("U", ["r"], ((0,), 1)))]
        self.assertEqual(Expression(["r"], unlike).tables(), [U])
        terms = [Term([], [(Table(name, [sort]), ("i",))]) for sort in "rs" for name in "ZKM"]
        self.refuses(OtherTable, {"name": "K"}, Expression, [], terms)
        self.refuses(OtherTable, {"name": "M"}, Expression, [], [term for term in terms if term.factors()[0][0].name != "K"])
        self.refuses(OtherTable, {"name": "K"}, Expression, [], terms * 20)
        self.refuses(OtherSorts, {"position": 0}, Expression, ["r"], terms)

    def test_too_many(self):
        self.refuses(TooMany, {"kind": "told", "limit": 8}, Expression, ["r"] * 9, [])
        self.refuses(TooMany, {"kind": "terms", "limit": 60}, Expression, ["r"], [LONE] * 61)
        self.refuses(TooMany, {"kind": "terms", "limit": 60}, Expression, ["r"], [LONE] * 300)
        self.assertEqual(len(Expression(["r"] * 8, []).sorts()), 8)
