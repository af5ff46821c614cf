"""Relations, combinations, and weights against them."""

from helpers import (Case, disguised, fraction, many_partitions, many_tables, random_expression, seeded, wrong_values)
from slotsums.errors import InvalidExpressions, InvalidSizes, OtherSorts, OtherTable, TooMany, UnknownSort
from slotsums.expressions import Expression
from slotsums.forms import are_alike
from slotsums.quotients import as_plain, unlike_form
from slotsums.ratios import Ratio
from slotsums.relations import combination_of, is_weights, relation_base, weights_against
from slotsums.shapes import one_shape
from slotsums.sizes import alike_at
from slotsums.tables import Table
from slotsums.terms import Term

LINKS = Table("A", ["row", "row"])
ROWS = Table("V", ["row"])
COLS = Table("W", ["col"])
SWAP = Table.alternating("T", "row", 2)
SQUARED = Expression([], [Term([], [(LINKS, ("i", "i")), (LINKS, ("j", "j"))])])
AROUND = Expression([], [Term([], [(LINKS, ("i", "j")), (LINKS, ("j", "i"))])])
LOOPS = Expression([], [Term([], [(LINKS, ("i", "i")), (LINKS, ("i", "i"))])])
TWICE = Expression(["row", "row"], [Term([("i", "row"), ("i", "row")], [])])


def alone(*factors, number=1):
    return Expression([], [Term([], list(factors), number)])


def added(expressions, multiples):
    """The sum of the multiples of the expressions."""
    total = Expression.zero(expressions[0].sorts())
    for expression, multiple in zip(expressions, multiples):
        total = total + expression * multiple
    return total


def is_alike_to_nought(expression, sizes):
    nothing = Expression.zero(expression.sorts())
    return are_alike(expression, nothing) if sizes is None else alike_at(expression, nothing, sizes)


def some_expressions(chance, many):
    """Expressions of which some are sums of others, or become so at small sizes."""
    found = [random_expression(chance, many_tables()[:7], ["r"], most_terms=2, most_names=4, most_factors=2)
             for _ in range(many)]
    for k in range(1, many):
        if chance.random() < 0.4:
            found[k] = found[k - 1] * Ratio(chance.randint(-3, 3), 2) - found[0] * chance.randint(-2, 2)
        elif chance.random() < 0.4:
            tail = Term([("q", "r")], [(LINKS_R, ("q", "p")), (LINKS_R, ("p", "o"))])
            found[k] = found[k - 1] + as_plain(tail) * 3
    return found


LINKS_R = many_tables()[2]


def rank(rows):
    """How many of some rows of Fractions are independent."""
    rows = [list(row) for row in rows]
    found = 0
    for column in range(len(rows[0]) if rows else 0):
        pivot = next((row for row in rows[found:] if row[column]), None)
        if pivot is None:
            continue
        rows.remove(pivot)
        rows.insert(found, pivot)
        for at in range(found + 1, len(rows)):
            times = rows[at][column] / pivot[column]
            rows[at] = [value - times * own for value, own in zip(rows[at], pivot)]
        found += 1
    return found


def rows_of_form(expressions, sizes):
    """For each shape its b in each expression, by the unlike forms."""
    shapes = []
    forms = [unlike_form(expression, sizes) for expression in expressions]
    for form in forms:
        shapes.extend(term for term, b in form if term not in shapes)
    return [[sum(fraction(b) for term, b in form if term == shape) for form in forms] for shape in shapes]


class RelationBaseTest(Case):
    def test_example(self):
        self.assertEqual(relation_base([SQUARED, AROUND], {"row": 1}), [[Ratio(1), Ratio(-1)]])
        self.assertEqual(relation_base([SQUARED, AROUND]), [])
        self.assertEqual(relation_base(expressions=(SQUARED, AROUND), sizes={"row": 0}),
                         [[Ratio(1), Ratio(0)], [Ratio(0), Ratio(1)]])
        self.assertEqual(relation_base([SQUARED, AROUND], {"row": 10 ** 9}), [])

    def test_the_one_base(self):
        base = relation_base([SQUARED, SQUARED * 2, AROUND, SQUARED - AROUND])
        self.assertEqual(base, [[Ratio(1), Ratio(0), Ratio(-1), Ratio(-1)], [Ratio(0), Ratio(1), Ratio(-2), Ratio(-2)]])
        self.assertEqual(relation_base([AROUND * 0, AROUND]), [[Ratio(1), Ratio(0)]])
        self.assertEqual(relation_base([AROUND, Expression.zero([])]), [[Ratio(0), Ratio(1)]])
        self.assertEqual(relation_base([AROUND]), [])
        self.assertEqual(relation_base([Expression.zero(["row"])], {"row": 1}), [[Ratio(1)]])

    def test_against_sums(self):
        """Each relation makes a sum alike to 0, they have the form of the base, and they are as many as can be."""
        chance = seeded(21)
        many = []
        for _ in range(30):
            expressions = some_expressions(chance, chance.randint(1, 6))
            for sizes in (None, {"r": 2, "s": 2}, {"r": 1, "s": 1}, {"r": 0, "s": 0}):
                base = relation_base(expressions, sizes)
                self.assertIsInstance(base, list)
                starts = []
                for relation in base:
                    self.assertIsInstance(relation, list)
                    self.assertTrue(all(isinstance(number, Ratio) for number in relation))
                    self.assertTrue(is_alike_to_nought(added(expressions, relation), sizes))
                    start = next(k for k, number in enumerate(relation) if number.sign)
                    self.assertEqual(relation[start], Ratio(1))
                    starts.append(start)
                self.assertEqual(starts, sorted(set(starts)))
                for start, own in zip(starts, base):
                    self.assertEqual([relation[start] for relation in base if relation is not own],
                                     [Ratio(0)] * (len(base) - 1))
                self.assertEqual(len(expressions) - len(base), rank(rows_of_form(expressions, sizes)))
                self.assertEqual(relation_base(expressions, sizes), base)
                many.append(len(base))
        self.assertTrue(0 in many and max(many) > 2)

    def test_errors(self):
        for call in (relation_base, lambda listed, *more: combination_of(listed, SQUARED, *more)):
            for value in wrong_values() + [{0: SQUARED}, SQUARED]:
                if not isinstance(value, (list, tuple)) or not value:
                    self.refuses(InvalidExpressions, {"position": None}, call, value, 3)
                else:
                    self.refuses(InvalidExpressions, {"position": 0}, call, value, 3)
                if not isinstance(value, Expression):
                    self.refuses(InvalidExpressions, {"position": 2}, call, [SQUARED, TWICE, value], 3)
            self.refuses(InvalidExpressions, {"position": 8}, call, [SQUARED] * 8 + [7], 3)
            self.refuses(TooMany, {"kind": "expressions", "limit": 8}, call, [SQUARED] * 8 + [TWICE], 3)
            self.refuses(OtherSorts, {"position": 2}, call, [SQUARED, SQUARED, TWICE], 3)
            unlike = alone((Table("A", ["row"]), ("i",)), number=0)
            self.refuses(OtherSorts, {"position": 2}, call, [SQUARED, unlike, TWICE], 3)
            self.refuses(OtherTable, {"name": "A"}, call, [SQUARED, unlike], 3)
            for value in wrong_values():
                if value is not None and value != {} and value != {"x": 1}:
                    self.refuses(InvalidSizes, {"value": value}, call, [SQUARED], value)
            self.refuses(UnknownSort, {"name": "row"}, call, [SQUARED], {"x": 1})
            self.refuses(UnknownSort, {"name": "col"}, call, [SQUARED, alone((COLS, ("i",)))], {})
        self.assertEqual(len(relation_base([SQUARED] * 8)), 7)

    def test_too_many_partitions(self):
        told = {"kind": "partitions", "limit": 4000}
        most, one = Expression([], many_partitions()), Expression([], [Term([], [], 0)])
        self.assertEqual(len(relation_base([most, Expression.zero([])])), 2)
        self.refuses(TooMany, told, relation_base, [most, one])
        self.refuses(TooMany, told, relation_base, [one, most], {"r": 0})
        self.refuses(UnknownSort, {"name": "r"}, relation_base, [one, most], {})
        for call in (combination_of, weights_against, lambda *values: is_weights(*values[:2], None, [])):
            self.refuses(TooMany, told, call, [one], most)
            self.refuses(TooMany, told, call, [most], one)


class CombinationTest(Case):
    def test_ordinary(self):
        self.assertEqual(combination_of([SQUARED, AROUND], SQUARED * 2 - AROUND), [Ratio(2), Ratio(-1)])
        self.assertIsNone(combination_of([SQUARED], AROUND))
        self.assertEqual(combination_of(expressions=[SQUARED], target=AROUND, sizes={"row": 1}), [Ratio(1)])
        self.assertEqual(combination_of([SQUARED], Expression.zero([])), [Ratio(0)])
        self.assertIsNone(combination_of([Expression.zero([])], AROUND))
        self.assertEqual(combination_of([Expression.zero([])], AROUND, {"row": 0}), [Ratio(0)])

    def test_sums_and_weights(self):
        """Either multiples whose sum is alike to the target, or weights that show that there are none."""
        chance = seeded(22)
        seen = []
        for _ in range(30):
            *expressions, target = some_expressions(chance, chance.randint(2, 6))
            for sizes in (None, {"r": 2, "s": 2}, {"r": 1, "s": 1}):
                multiples = combination_of(expressions, target, sizes)
                weights = weights_against(expressions, target, sizes)
                self.assertIs(multiples is None, weights is not None)
                seen.append(multiples is None)
                if multiples is not None:
                    self.assertEqual(len(multiples), len(expressions))
                    self.assertTrue(all(isinstance(number, Ratio) for number in multiples))
                    self.assertTrue(is_alike_to_nought(added(expressions, multiples) - target, sizes))
                    self.assertFalse(is_weights(expressions, target, sizes, []))
                else:
                    self.check_weights(expressions, target, sizes, weights)
                self.assertEqual(combination_of(expressions, target, sizes), multiples)
                self.assertEqual(weights_against(expressions, target, sizes), weights)
        self.assertTrue(10 < sum(seen) < len(seen) - 10)

    def check_weights(self, expressions, target, sizes, weights):
        self.assertIs(is_weights(expressions, target, sizes, weights), True)
        self.assertIsInstance(weights, list)
        for term, weight in weights:
            self.assertEqual(one_shape(term), (1, term))
            self.assertIs(type(weight), int)
            self.assertNotEqual(weight, 0)
            if sizes:
                self.assertTrue(all(many <= sizes[sort] for sort, many in term.sizes().items()))
        sums = []
        for expression in expressions + [target]:
            form = unlike_form(expression, sizes)
            sums.append(sum(weight * fraction(b) for term, weight in weights for own, b in form if own == term))
        self.assertEqual(sums[:-1], [0] * len(expressions))
        self.assertNotEqual(sums[-1], 0)

    def test_target_errors(self):
        """The target counts as the position behind the list, but not as one of eight."""
        calls = [combination_of, weights_against,
                 lambda expressions, target, sizes=None: is_weights(expressions, target, sizes, None)]
        for call in calls:
            for value in wrong_values():
                if value != Expression([], []):
                    self.refuses(InvalidExpressions, {"position": 2}, call, [SQUARED, TWICE], value, 3)
            self.refuses(InvalidExpressions, {"position": None}, call, 5, 6)
            self.refuses(InvalidExpressions, {"position": 0}, call, [5], 6)
            self.refuses(InvalidExpressions, {"position": 9}, call, [SQUARED] * 9, 6)
            self.refuses(TooMany, {"kind": "expressions", "limit": 8}, call, [SQUARED] * 9, TWICE)
            self.refuses(OtherSorts, {"position": 1}, call, [SQUARED], TWICE, 3)
            self.refuses(OtherSorts, {"position": 8}, call, [SQUARED] * 8, TWICE, 3)
            unlike = alone((Table("A", ["row"]), ("i",)), number=0)
            self.refuses(OtherTable, {"name": "A"}, call, [SQUARED], unlike, 3)
            self.refuses(InvalidSizes, {"value": 3}, call, [SQUARED], SQUARED, 3)
            self.refuses(UnknownSort, {"name": "col"}, call, [SQUARED], alone((COLS, ("i",))), {})
            call([SQUARED] * 8, AROUND)

    def test_returned_lists_are_new(self):
        for call in (lambda: relation_base([SQUARED, SQUARED]), lambda: combination_of([SQUARED], SQUARED),
                     lambda: weights_against([SQUARED], AROUND)):
            first, second = call(), call()
            first.clear()
            self.assertEqual(call(), second)
        base = relation_base([SQUARED, SQUARED])
        base[0].clear()
        self.assertEqual(relation_base([SQUARED, SQUARED]), [[Ratio(1), Ratio(-1)]])
        listed = [SQUARED, AROUND]
        relation_base(listed)
        self.assertEqual(listed, [SQUARED, AROUND])


class WeightsTest(Case):
    def test_ordinary(self):
        """A round trip has a shape with two names, a square of loops has none."""
        shape = Term([], [(LINKS, ("i", "j")), (LINKS, ("j", "i"))])
        self.assertIs(is_weights([LOOPS], AROUND, None, [(shape, 3)]), True)
        self.assertIs(is_weights(expressions=[LOOPS], target=AROUND, sizes={"row": 2}, value=((shape, -3),)), True)
        self.assertIs(is_weights([LOOPS], AROUND, {"row": 1}, [(shape, 3)]), False)
        self.assertIs(is_weights([AROUND], LOOPS, None, [(shape, 3)]), False)
        self.assertIs(is_weights([AROUND, LOOPS], AROUND, None, [(shape, 3)]), False)
        loops = Term([], [(LINKS, ("x", "x")), (LINKS, ("x", "x"))], Ratio(7, 2))
        self.assertIs(is_weights([AROUND], LOOPS, None, [(shape, -1), (loops, 1)]), True)
        self.assertIs(is_weights([AROUND], LOOPS, None, [(shape, -1), (loops, 2)]), False)

    def test_several_expressions(self):
        """The sum must be 0 for each of them, and weights are integers, also where fractions would do."""
        shape = Term([], [(LINKS, ("i", "j")), (LINKS, ("j", "i"))])
        self.assertIs(is_weights([LOOPS, AROUND], AROUND, None, [(shape, 3)]), False)
        self.assertIs(is_weights([LOOPS, LOOPS * 2], AROUND, None, [(shape, 3)]), True)
        one = Term([], [(ROWS, ("i",))])
        two, three = Term([], one.factors() + ((ROWS, ("j",)),)), Term([], [(COLS, ("k",))])
        plain = [as_plain(term) for term in (one, two, three)]
        mixed = plain[0] * 2 + plain[1] * 3 + plain[2] * 5
        weights = weights_against([mixed, plain[1] * 7 - plain[2] * 11], plain[0])
        self.assertIs(is_weights([mixed, plain[1] * 7 - plain[2] * 11], plain[0], None, weights), True)
        self.assertEqual(sorted(abs(weight) for shape, weight in weights), [7, 11, 34])

    def test_signs(self):
        """b of a Term has the sign of the Term against its one shape."""
        told = [("i", "row"), ("j", "row"), ("k", "row")]
        one = Expression(["row"] * 3, [Term(told, [(SWAP, ("i", "j"))]), Term(told, [(SWAP, ("j", "k"))])])
        other = Expression(["row"] * 3, [Term(told, [(SWAP, ("i", "j"))]), Term(told, [(SWAP, ("k", "j"))])])
        straight, turned = Term(told, [(SWAP, ("i", "j"))]), Term(told, [(SWAP, ("j", "i"))])
        last, back = Term(told, [(SWAP, ("j", "k"))]), Term(told, [(SWAP, ("k", "j"))])
        for first, sign in ((straight, 1), (turned, -1)):
            for second, own in ((last, 1), (back, -1)):
                for weight in (1, -1):
                    value = [(first, sign), (second, weight)]
                    self.assertIs(is_weights([one], other, None, value), own * weight == -1)

    def test_disguised(self):
        chance = seeded(23)
        for _ in range(20):
            *expressions, target = some_expressions(chance, 4)
            weights = weights_against(expressions, target)
            if weights is not None:
                value = []
                for term, weight in weights:
                    sign, other = disguised(chance, term)
                    value.append((other.with_number(chance.choice([0, 3, Ratio(-1, 2)])), weight * sign))
                chance.shuffle(value)
                self.assertIs(is_weights(expressions, target, None, value), True)

    def test_any_value(self):
        shape = Term([], [(LINKS, ("i", "j")), (LINKS, ("j", "i"))])
        good = [(shape, 3)]
        self.assertIs(is_weights([LOOPS], AROUND, None, good), True)
        mixed = [(SWAP, ("i", "j")), (Table.symmetric("S", "row", 2), ("i", "j"))]
        wrong = wrong_values() + [
            [(shape, 0)], [(shape, True)], [(shape, Ratio(3))], [[shape, 3]], [(shape, "3")], [(shape,)],
            [(shape, 3, 3)], {shape.number.top: 3}, (shape, 3), shape, [(shape, 3), None], [(shape, 3), (Term([], [(ROWS, ("i",))]), 0)], [(shape, 3), (shape, 3)],
            [(shape, 3), (Term([], [(LINKS, ("x", "y")), (LINKS, ("y", "x"))]), 1)], [(AROUND, 3)],
            [(shape, 3), (Term([], mixed), 1)], [(shape, 3), (Term([], [(SWAP, ("i", "i"))]), 1)],
            [(shape, 3), (Term([("i", "row")], []), 1)], [(shape, 3), (Term([("i", "row")], [(ROWS, ("i",))]), 1)],
            [(shape, 3), (Term([], [(Table("A", ["row"]), ("i",))]), 1)],
            [(shape, 3), (Term([], [(ROWS, ("i",))]), 1), (Term([], [(Table("V", ["col"]), ("i",))]), 1)]]
        for value in wrong:
            self.assertIs(is_weights([LOOPS], AROUND, None, value), False, value)
        self.assertIs(is_weights([LOOPS], AROUND, None, good + [(Term([], [(ROWS, ("i",))]), 1)]), True)
        self.assertIs(is_weights([LOOPS], AROUND, {"row": 2}, good + [(Term([], [(COLS, ("i",))]), 1)]), False)
        self.assertIs(is_weights([LOOPS], AROUND, {"row": 2, "col": 1}, good + [(Term([], [(COLS, ("i",))]), 1)]), True)

    def test_errors_ahead_of_the_value(self):
        self.refuses(InvalidSizes, {"value": 4}, is_weights, [LOOPS], AROUND, 4, None)
        self.refuses(UnknownSort, {"name": "row"}, is_weights, [LOOPS], AROUND, {}, None)
        many = [(Term([], [(Table(name, ["row"]), (letter,)) for letter in "abcdefg"]), 1) for name in "BCDEF"]
        self.assertIs(is_weights([LOOPS], AROUND, None, many), False)
