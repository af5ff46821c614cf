"""[36], [37] Growth, costs and space as sizes grow, and best plans."""

from helpers import (Case, many_tables, plan_key, random_term, searched_cost, searched_plans, seeded, wrong_values)
from slotsums.cheapest import cheapest_plan
from slotsums.errors import InvalidGrowth, InvalidPlan, NoFactors, UnknownSort
from slotsums.every_size import (best_plans, changing_points, cost_polynomial, is_best_plans, last_exponent,
                                 space_pieces)
from slotsums.plans import all_plans, cost_of, space_of
from slotsums.polynomials import Polynomial, sign_runs
from slotsums.ratios import Ratio
from slotsums.tables import Table
from slotsums.terms import Term

A, B, C = Table("A", ["u", "f"]), Table("B", ["f", "u"]), Table("C", ["u", "f"])
CHAIN = Term([("i", "u"), ("l", "f")], [(A, ("i", "j")), (B, ("j", "k")), (C, ("k", "l"))])
LEFT, RIGHT = ((0, 1), 2), (0, (1, 2))
GROWTH = {"f": 10, "u": None}
LINKS = Table("E", ["u", "u"])
ONE = Term([("i", "u")], [(LINKS, ("i", "j"))])


def at_d(growth, d):
    """The sizes of a growth at a d."""
    return {sort: d if size is None else size for sort, size in growth.items()}


def some_growths(seed, many, most_factors=5):
    """Terms with factors, and growths without None, with one and with several."""
    chance = seeded(seed)
    found = []
    while len(found) < many:
        term = random_term(chance, many_tables(), most_factors=most_factors, most_names=7)
        if term.factors() and (len(term.factors()) > 2 or chance.random() < 0.3):
            sizes = [None, None, 1, 2, 7, 30, 1000, 10 ** 9]
            one, other = chance.choice(sizes), chance.choice(sizes)
            found.append((term, chance.choice([{"r": one, "s": other}, {"r": None, "s": chance.choice([3, 9, 40])}])))
    return found


def numbers_around(starts):
    """Numbers d at and next to some starts, and some others."""
    near = {start + by for start in starts for by in (-2, -1, 0, 1, 2)}
    return sorted({d for d in near if d >= 1} | {1, 2, 3, 4, 5, 11, 10 ** 3, 10 ** 12})


def piece_at(pieces, d):
    """The last piece that starts at d or ahead of it."""
    return [piece for piece in pieces if piece[0] <= d][-1]


def searched_best(term, sizes):
    """(cost, plan) of the first plan of least cost, by a list of all plans."""
    rows = [(searched_cost(term, plan, sizes)[0], plan_key(plan), plan)
            for plan in searched_plans(list(range(len(term.factors()))))]
    cost, key, plan = min(rows, key=lambda row: row[:2])
    return cost, plan


class CostPolynomialTest(Case):
    def test_example(self):
        self.assertEqual(cost_polynomial(CHAIN, LEFT, GROWTH), Polynomial(0, 0, 20))
        self.assertEqual(cost_polynomial(term=CHAIN, plan=RIGHT, growth=GROWTH), Polynomial(0, 200))
        self.assertEqual(cost_polynomial(CHAIN, LEFT, {"f": None, "u": None}), Polynomial(0, 0, 0, 2))
        self.assertEqual(cost_polynomial(CHAIN, LEFT, {"f": 10, "u": 2}), Polynomial(80))
        self.assertEqual(cost_polynomial(CHAIN, LEFT, {"f": 10 ** 9, "u": None, "more": None}),
                         Polynomial(0, 0, 2 * 10 ** 9))

    def test_against_cost_of(self):
        chance = seeded(361)
        for term, growth in some_growths(361, 80):
            plan = chance.choice(list(all_plans(term)))
            cost = cost_polynomial(term, plan, growth)
            self.assertIs(type(cost), Polynomial)
            for d in (1, 2, 3, 10, 999, 10 ** 9):
                self.assertEqual(cost.at(d), cost_of(term, plan, at_d(growth, d)))
            self.assertEqual(cost.degree < 1, None not in growth.values() or cost.at(1) == cost.at(2))

    def test_one_factor(self):
        self.assertEqual(cost_polynomial(ONE, 0, {"u": None}), Polynomial())


class SpacePiecesTest(Case):
    def test_small(self):
        self.assertEqual(space_pieces(ONE, 0, {"u": None}), [(1, Polynomial())])
        self.assertEqual(space_pieces(CHAIN, LEFT, GROWTH), [(1, Polynomial(0, 10)), (10, Polynomial(0, 0, 1))])
        self.assertEqual(space_pieces(term=CHAIN, plan=RIGHT, growth=GROWTH),
                         [(1, Polynomial(100)), (10, Polynomial(0, 10))])
        self.assertEqual(space_pieces(CHAIN, RIGHT, {"f": 10, "u": 3}), [(1, Polynomial(100))])
        self.assertEqual(space_pieces(CHAIN, RIGHT, {"f": 1, "u": None}), [(1, Polynomial(0, 1))])

    def test_three_pieces(self):
        """Where several are the greatest, the highest degree counts, also where one is left out for it."""
        tables = [Table("A", ["f", "f"]), Table("B", ["f", "g", "u"]), Table("C", ["f", "g", "u", "u"]),
                  Table("D", ["u", "u", "u"])]
        term = Term([], [(tables[0], ("a", "b")), (tables[0], ("b", "a")), (tables[1], ("b", "c", "p")),
                         (tables[2], ("a", "c", "q", "r")), (tables[3], ("p", "q", "r"))])
        plan = ((((0, 1), 2), 3), 4)
        self.assertEqual(space_pieces(term, plan, {"f": 1000, "g": 100, "u": None}),
                         [(1, Polynomial(10 ** 6)), (10, Polynomial(0, 10 ** 5)), (317, Polynomial(0, 0, 0, 1))])
        self.assertEqual(space_pieces(term, plan, {"f": 1000, "g": 10, "u": None}),
                         [(1, Polynomial(10 ** 6)), (100, Polynomial(0, 0, 0, 1))])
        self.assertEqual(space_pieces(term, plan, {"f": 1, "g": None, "u": None}), [(1, Polynomial(0, 0, 0, 1))])
        self.assertEqual(space_pieces(term, plan, {"f": None, "g": 7, "u": None}),
                         [(1, Polynomial(0, 0, 7)), (7, Polynomial(0, 0, 0, 1))])

    def test_against_space_of(self):
        chance = seeded(362)
        several = 0
        for term, growth in some_growths(362, 120):
            plan = chance.choice(list(all_plans(term)))
            pieces = space_pieces(term, plan, growth)
            several += len(pieces) > 1
            self.assertEqual(pieces[0][0], 1)
            for (start, space), (following, other) in zip(pieces, pieces[1:]):
                self.assertLess(start, following)
                self.assertNotEqual(space, other)
                self.assertLess(space.degree, other.degree)
                # The higher degree counts from where it is as great.
                self.assertLess(other.at(following - 1), space.at(following - 1))
            for d in numbers_around([start for start, space in pieces]):
                self.assertEqual(piece_at(pieces, d)[1].at(d), space_of(term, plan, at_d(growth, d)))
        self.assertTrue(several > 3)


class BestPlansTest(Case):
    def test_example(self):
        want = [(1, LEFT, Polynomial(0, 0, 20)), (10, RIGHT, Polynomial(0, 200))]
        # At d = 10 both cost 2000, and (0, (1, 2)) is the first one.
        self.assertEqual(best_plans(CHAIN, GROWTH), want)
        self.assertEqual(best_plans(term=CHAIN, growth={"u": None, "f": 10}), want)
        self.assertIs(type(best_plans(CHAIN, GROWTH)), list)
        self.assertIs(type(best_plans(CHAIN, GROWTH)[0]), tuple)
        self.assertEqual(last_exponent(CHAIN, GROWTH), 1)
        self.assertEqual(last_exponent(term=CHAIN, growth={"f": None, "u": None}), 3)

    def test_one_factor(self):
        self.assertEqual(best_plans(ONE, {"u": None}), [(1, 0, Polynomial())])
        self.assertEqual(last_exponent(ONE, {"u": 5}), -1)

    def test_against_all_plans(self):
        """At each d on both sides of each start the plan is the first one of least cost of all plans."""
        several = 0
        for term, growth in some_growths(363, 120):
            pieces = best_plans(term, growth)
            several += len(pieces) > 1
            self.assertEqual(pieces[0][0], 1)
            for (start, plan, cost), (following, other, more) in zip(pieces, pieces[1:]):
                self.assertLess(start, following)
                self.assertNotEqual(plan, other)
            for start, plan, cost in pieces:
                self.assertEqual(cost, cost_polynomial(term, plan, growth))
            for d in numbers_around([piece[0] for piece in pieces]):
                start, plan, cost = piece_at(pieces, d)
                self.assertEqual((cost.at(d), plan), searched_best(term, at_d(growth, d)))
                self.assertEqual((cost.at(d), plan), cheapest_plan(term, at_d(growth, d)))
            self.assertEqual(last_exponent(term, growth), pieces[-1][2].degree)
            self.assertEqual(best_plans(term, growth), pieces)
            self.assertIs(is_best_plans(term, growth, pieces), True)
        self.assertTrue(several > 15)

    def test_each_d(self):
        """Also between the starts: at each d up to 60."""
        chance = seeded(364)
        for _ in range(15):
            tables = [Table("ABC"[k], ["r"] * (k + 1)) for k in range(3)] + [Table("D", ["r", "s"])]
            term = random_term(chance, tables, most_factors=5, most_names=7)
            if term.factors():
                growth = {"r": None, "s": chance.choice([3, 12, 50])}
                pieces = best_plans(term, growth)
                for d in range(1, 61):
                    start, plan, cost = piece_at(pieces, d)
                    self.assertEqual((cost.at(d), plan), searched_best(term, at_d(growth, d)))

    def test_seven_factors(self):
        chance = seeded(365)
        for _ in range(4):
            factors = [(Table("ABCDEFG"[k], ["u", "f", "u"][:2 + k % 2]), tuple(chance.choice(names) for names in
                        ("abc", "xyz", "abcd")[:2 + k % 2])) for k in range(7)]
            term = Term([("a", "u"), ("x", "f")], factors)
            growth = {"u": None, "f": chance.choice([None, 9, 10 ** 9])}
            if "f" in term.sizes() and "u" in term.sizes():
                pieces = best_plans(term, growth)
                for d in numbers_around([piece[0] for piece in pieces]):
                    start, plan, cost = piece_at(pieces, d)
                    self.assertEqual((cost.at(d), plan), cheapest_plan(term, at_d(growth, d)))

    def test_great_starts(self):
        growth = {"f": 10 ** 9, "u": None}
        self.assertEqual(best_plans(CHAIN, growth), [(1, LEFT, Polynomial(0, 0, 2 * 10 ** 9)),
                                                     (10 ** 9, RIGHT, Polynomial(0, 2 * 10 ** 18))])


class IsBestPlansTest(Case):
    def test_lists_with_one_part_otherwise(self):
        left, right = Polynomial(0, 0, 20), Polynomial(0, 200)
        good = [(1, LEFT, left), (10, RIGHT, right)]
        self.assertIs(is_best_plans(CHAIN, GROWTH, good), True)
        self.assertIs(is_best_plans(term=CHAIN, growth=GROWTH, value=tuple(good)), True)
        for value in ([], good[:1], good[1:], good[::-1], good + good, [(2, LEFT, left), (10, RIGHT, right)],
                      [(1, LEFT, left), (9, RIGHT, right)], [(1, LEFT, left), (12, RIGHT, right)],
                      [(1, RIGHT, left), (10, RIGHT, right)], [(1, LEFT, right), (10, RIGHT, right)],
                      [(1, RIGHT, right), (10, RIGHT, right)], [(1, LEFT, left), (10, LEFT, left)],
                      [[1, LEFT, left], (10, RIGHT, right)], [(1, list(LEFT), left), (10, RIGHT, right)],
                      [(True, LEFT, left), (10, RIGHT, right)], [(1, LEFT, left), (10, RIGHT, 200)],
                      [(1, LEFT, left, 0), (10, RIGHT, right)], [(1, LEFT), (10, RIGHT, right)],
                      [(1, LEFT, left), (10, RIGHT, Polynomial(1, 200))], [(1, LEFT, left), None],
                      [(1, LEFT, left), (10, RIGHT, right), (10, RIGHT, right)],
                      [(0, LEFT, left), (10, RIGHT, right)], [(1, LEFT, left), (10, RIGHT, right), (5, RIGHT, right)],
                      [(1, LEFT, left), (Ratio(10), RIGHT, right)], {1: good}, good[0]):
            self.assertIs(is_best_plans(CHAIN, GROWTH, value), False)

    def test_equal_costs_and_neighbours(self):
        """At d = 10 both cost the same, so the change can be at 10 or 11; neighbours may have the same plan."""
        left, right = Polynomial(0, 0, 20), Polynomial(0, 200)
        for value in ([(1, LEFT, left), (11, RIGHT, right)], [(1, LEFT, left), (4, LEFT, left), (10, RIGHT, right)],
                      [(1, LEFT, left), (10, RIGHT, right), (10 ** 30, RIGHT, right)],
                      [(1, LEFT, left), (10, RIGHT, right), (11, RIGHT, right)],
                      [(1, LEFT, left), (10, LEFT, left), (11, RIGHT, right)]):
            self.assertIs(is_best_plans(CHAIN, GROWTH, value), True)
        # At d = 1 alone both cost the same, and from d = 2 on the other one costs less.
        thin, cost, less = {"f": 1, "u": None}, Polynomial(0, 0, 2), Polynomial(0, 2)
        self.assertEqual(best_plans(CHAIN, thin), [(1, RIGHT, less)])
        self.assertIs(is_best_plans(CHAIN, thin, [(1, LEFT, cost), (2, RIGHT, less)]), True)
        self.assertIs(is_best_plans(CHAIN, thin, [(1, LEFT, cost), (3, RIGHT, less)]), False)
        self.assertIs(is_best_plans(CHAIN, thin, [(1, RIGHT, less), (2, LEFT, cost), (3, RIGHT, less)]), False)
        both = {"f": 3, "u": 3}
        cost = cost_polynomial(CHAIN, LEFT, both)
        for plan in (LEFT, RIGHT):
            self.assertIs(is_best_plans(CHAIN, both, [(1, plan, cost)]), True)
        self.assertIs(is_best_plans(CHAIN, both, [(1, LEFT, cost), (2, RIGHT, cost), (3, LEFT, cost)]), True)

    def test_some_numbers(self):
        """One number at which a plan costs more is enough."""
        for term, growth in some_growths(366, 60, most_factors=4):
            pieces = best_plans(term, growth)
            for at in range(1, len(pieces)):
                start, plan, cost = pieces[at]
                later = pieces[:at] + [(start + 10 ** 12, plan, cost)]
                self.assertIs(is_best_plans(term, growth, later), False)
                earlier = pieces[:at] + [(start - 1, plan, cost)] + pieces[at + 1:]
                if start - 1 > pieces[at - 1][0]:
                    worse = cost.at(start - 1) > pieces[at - 1][2].at(start - 1)
                    self.assertIs(is_best_plans(term, growth, earlier), not worse)
            for plan in list(all_plans(term))[:20] if len(pieces) == 1 else []:
                cost = cost_polynomial(term, plan, growth)
                always = sign_runs(cost - pieces[0][2]) == [(1, 0)]
                self.assertIs(is_best_plans(term, growth, [(1, plan, cost)]), always)

    def test_any_value(self):
        for value in wrong_values() + [Polynomial(1), [Polynomial()], [(1, 0, Polynomial())]]:
            self.assertIs(is_best_plans(CHAIN, GROWTH, value), False)
            self.assertIs(is_best_plans(CHAIN, GROWTH, [value]), False)
            self.assertIs(is_best_plans(CHAIN, GROWTH, [(1, LEFT, value), (10, RIGHT, Polynomial(0, 200))]), False)
        self.assertIs(is_best_plans(ONE, {"u": None}, [(1, 0, Polynomial())]), True)
        self.assertIs(is_best_plans(ONE, {"u": None}, [(1, 0, Polynomial(0))]), True)
        self.assertIs(is_best_plans(ONE, {"u": None}, [(1, False, Polynomial())]), False)


class ChangingPointsTest(Case):
    def test_example(self):
        self.assertEqual(changing_points(CHAIN, LEFT, RIGHT, GROWTH), [(1, -1), (10, 0), (11, 1)])
        self.assertEqual(changing_points(term=CHAIN, plan=RIGHT, other=LEFT, growth=GROWTH),
                         [(1, 1), (10, 0), (11, -1)])
        self.assertEqual(changing_points(CHAIN, LEFT, LEFT, GROWTH), [(1, 0)])
        self.assertEqual(changing_points(CHAIN, LEFT, RIGHT, {"f": 2, "u": 1}), [(1, -1)])

    def test_against_costs(self):
        chance = seeded(367)
        for term, growth in some_growths(367, 60):
            plan, other = [chance.choice(list(all_plans(term))) for _ in range(2)]
            runs = changing_points(term, plan, other, growth)
            for d in numbers_around([start for start, sign in runs]):
                sizes = at_d(growth, d)
                less = cost_of(term, plan, sizes) - cost_of(term, other, sizes)
                self.assertEqual(piece_at(runs, d)[1], (less > 0) - (less < 0))


class ErrorsTest(Case):
    def calls(self):
        """Each function as a call with a plan, a second plan and a growth."""
        return {
            "cost": lambda term, plan, other, growth: cost_polynomial(term, plan, growth),
            "space": lambda term, plan, other, growth: space_pieces(term, plan, growth),
            "points": lambda term, plan, other, growth: changing_points(term, plan, other, growth),
            "best": lambda term, plan, other, growth: best_plans(term, growth),
            "is best": lambda term, plan, other, growth: is_best_plans(term, growth, None),
            "last": lambda term, plan, other, growth: last_exponent(term, growth),
        }

    def test_sequence(self):
        for word, call in self.calls().items():
            self.refuses(NoFactors, {}, call, Term([], []), None, None, None)
            for value in wrong_values() + [((1, 0), 2), (0, 1)]:
                if word in ("cost", "space", "points"):
                    self.refuses(InvalidPlan, {"value": value}, call, CHAIN, value, 7, None)
                if word == "points":
                    self.refuses(InvalidPlan, {"value": value}, call, CHAIN, LEFT, value, None)
            wrong = wrong_values() + [{"u": 0}, {"u": -1}, {"u": True}, {"u": "2"}, {"u": 10 ** 9 + 1}, {"": 1},
                                      {"u": 1, "f": Ratio(2)}, {"u": 1, "f": 1, 3: 1}, {"u": 1, "f": 1, "x": 0},
                                      {"u": [1]}, {("u",): 1}]
            for value in wrong:
                if value not in ({}, {"x": 1}):
                    self.refuses(InvalidGrowth, {"value": value}, call, CHAIN, LEFT, RIGHT, value)
            self.refuses(UnknownSort, {"name": "f"}, call, CHAIN, LEFT, RIGHT, {})
            self.refuses(UnknownSort, {"name": "u"}, call, CHAIN, LEFT, RIGHT, {"f": None, "x": 1})
            lone = Term([("t", "a")], [(LINKS, ("i", "j"))])
            self.refuses(UnknownSort, {"name": "a"}, call, lone, 0, 0, {"u": 1})

    def test_copies(self):
        growth = {"f": 10, "u": None}
        best_plans(CHAIN, growth).clear()
        space_pieces(CHAIN, LEFT, growth).clear()
        changing_points(CHAIN, LEFT, RIGHT, growth).clear()
        self.assertEqual(growth, {"f": 10, "u": None})
        self.assertEqual(len(best_plans(CHAIN, growth)), 2)
