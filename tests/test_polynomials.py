"""[34], [35] Polynomials, their texts, and sign runs."""

import math

from helpers import Case, seeded, wrong_values
from slotsums.errors import InvalidNumber, InvalidPolynomial
from slotsums.polynomials import Polynomial, sign_runs
from slotsums.ratios import Ratio


def sign(number):
    return (number > 0) - (number < 0)


def searched_runs(polynomial, end):
    """The sign runs as far as the end, by the value at each d."""
    found = []
    for d in range(1, end):
        own = sign(polynomial.at(d))
        if not found or found[-1][1] != own:
            found.append((d, own))
    return found


def product(*factors):
    found = Polynomial(1)
    for factor in factors:
        found = found * factor
    return found


class PolynomialTest(Case):
    def test_parts(self):
        rows = [((), -1, ()), ((0,), -1, ()), ((0, 0, 0), -1, ()), ((5,), 0, (5,)), ((5, 0), 0, (5,)),
                ((0, 0, -1), 2, (0, 0, -1)), ((1, 2, 0, 3, 0, 0), 3, (1, 2, 0, 3))]
        for given, degree, kept in rows:
            one = Polynomial(*given)
            self.assertEqual((one.degree, one.coefficients()), (degree, kept))
            self.assertIs(type(one.coefficients()), tuple)
            self.assertEqual(one, Polynomial(*kept))

    def test_values(self):
        chance = seeded(34)
        for _ in range(50):
            row = [chance.randint(-10 ** chance.randint(0, 59), 10 ** 59) for _ in range(chance.randint(0, 6))]
            one = Polynomial(*row)
            for d in (-10 ** 20, -2, -1, 0, 1, 2, 7, 10 ** 9):
                want = sum(coefficient * d ** exponent for exponent, coefficient in enumerate(row))
                self.assertEqual(one.at(d), want)
                self.assertIs(type(one.at(d=d)), int)
        self.assertEqual(Polynomial().at(5), 0)

    def test_arithmetic(self):
        chance = seeded(35)
        for _ in range(100):
            one, other = [Polynomial(*[chance.randint(-3, 3) for _ in range(chance.randint(0, 5))]) for _ in range(2)]
            for d in range(-5, 12):
                self.assertEqual((one + other).at(d), one.at(d) + other.at(d))
                self.assertEqual((one - other).at(d), one.at(d) - other.at(d))
                self.assertEqual((one * other).at(d), one.at(d) * other.at(d))
                self.assertEqual((-one).at(d), -one.at(d))
            self.assertEqual(one - one, Polynomial())
            self.assertIs(type(one + other), Polynomial)
        self.assertEqual((Polynomial(1, 2) + Polynomial(0, -2)).degree, 0)
        self.assertEqual(Polynomial(1, 2) * Polynomial(), Polynomial())
        self.assertEqual(Polynomial() * Polynomial(), Polynomial())

    def test_unchanged(self):
        one, other = Polynomial(1, 2), Polynomial(3, -2)
        for _ in range(2):
            self.assertEqual((one + other, one - other, one * other, -one),
                             (Polynomial(4), Polynomial(-2, 4), Polynomial(3, 4, -4), Polynomial(-1, -2)))
        self.assertEqual((one, other), (Polynomial(1, 2), Polynomial(3, -2)))

    def test_text(self):
        rows = [((), "0"), ((0, 0), "0"), ((7,), "7"), ((-7,), "-7"), ((1,), "1"), ((-1,), "-1"), ((0, 1), "d"),
                ((0, -1), "-d"), ((0, 2), "2 d"), ((0, -2), "-2 d"), ((0, 0, 1), "d^2"), ((0, 0, -1), "-d^2"),
                ((0, 0, 0, 5), "5 d^3"), ((6, -5, 1), "d^2 - 5 d + 6"), ((1, 1, 1), "d^2 + d + 1"),
                ((-1, -1, -1), "-d^2 - d - 1"), ((-1, 0, 0, 1), "d^3 - 1"), ((1, 0, -12, 0, -3), "-3 d^4 - 12 d^2 + 1"),
                ((0, -1, 1), "d^2 - d"), ((0,) * 12 + (1,), "d^12"), ((10 ** 59, 1), "d + 1" + "0" * 59)]
        for given, text in rows:
            self.assertEqual(str(Polynomial(*given)), text)

    def test_repr(self):
        self.assertEqual(repr(Polynomial(3, 0, -1)), "Polynomial(3, 0, -1)")
        self.assertEqual(repr(Polynomial()), "Polynomial()")
        self.assertEqual(repr(Polynomial(0, 0)), "Polynomial()")
        self.assertEqual(repr(Polynomial(5, 0)), "Polynomial(5)")

    def test_equal(self):
        one = Polynomial(1, 2)
        self.assertEqual(one, Polynomial(1, 2, 0))
        for other in (Polynomial(1), Polynomial(2, 1), Polynomial(), (1, 2), "2 d + 1", None, Ratio(1)):
            self.assertFalse(one == other)
            self.assertTrue(one != other)
        self.assertFalse(Polynomial(5) == 5)
        self.assertFalse(Polynomial() == 0)

    def test_wrong(self):
        for value in wrong_values() + [Polynomial(1)]:
            if value not in (-1, 0, 1, 9) or isinstance(value, (bool, Ratio)):
                self.refuses(InvalidNumber, {"value": value}, Polynomial, value)
                self.refuses(InvalidNumber, {"value": value}, Polynomial, 1, 2, value, None)
                self.refuses(InvalidNumber, {"value": value}, Polynomial(1, 2).at, value)
            if not isinstance(value, Polynomial):
                self.refuses(InvalidPolynomial, {"value": value}, lambda: Polynomial(1) + value)
                self.refuses(InvalidPolynomial, {"value": value}, lambda: Polynomial(1) - value)
                self.refuses(InvalidPolynomial, {"value": value}, lambda: Polynomial(1) * value)
                self.refuses(InvalidPolynomial, {"value": value}, sign_runs, value)


class SignRunsTest(Case):
    def test_example(self):
        both = Polynomial(-2, 1) * Polynomial(-3, 1)
        self.assertEqual([str(both), both.at(7), sign_runs(both)], ["d^2 - 5 d + 6", 20, [(1, 1), (2, 0), (4, 1)]])
        self.assertEqual(sign_runs(polynomial=both), [(1, 1), (2, 0), (4, 1)])

    def test_constants(self):
        for number in (-5, 0, 3, 10 ** 59):
            self.assertEqual(sign_runs(Polynomial(number)), [(1, sign(number))])
        self.assertEqual(sign_runs(Polynomial()), [(1, 0)])

    def test_against_all_values(self):
        chance = seeded(36)
        for _ in range(300):
            one = Polynomial(*[chance.randint(-30, 30) for _ in range(chance.randint(1, 6))])
            self.assertEqual(sign_runs(one), searched_runs(one, 200))

    def test_against_all_values_of_products(self):
        """Roots that are double, close to one another, between two numbers, below 1, and none."""
        chance = seeded(37)
        for _ in range(300):
            kinds = [Polynomial(-chance.randint(-3, 40), 1), Polynomial(-chance.randint(-3, 40),
                    chance.choice([2, 3, -1])),
                     Polynomial(chance.randint(1, 9), chance.randint(-5, 5), 3), Polynomial(-1, chance.randint(1, 5)),
                     Polynomial(0, 1)]
            one = product(*[chance.choice(kinds) for _ in range(chance.randint(1, 6))])
            self.assertEqual(sign_runs(one), searched_runs(one, 120))
            self.assertEqual(sign_runs(-one), [(start, -own) for start, own in sign_runs(one)])

    def test_no_root_from_one_on(self):
        for row in ((1, 1), (5, 0, 1), (1, 1, 1, 1), (0, 1), (0, 0, 7), (-1, 2), (-3, 8, 1)):
            self.assertEqual(sign_runs(Polynomial(*row)), [(1, 1)])
        self.assertEqual(sign_runs(Polynomial(-1, 1)), [(1, 0), (2, 1)])

    def test_between_two_numbers(self):
        """Roots between two neighbours, also two of them, leave no trace but a change of the sign."""
        self.assertEqual(sign_runs(Polynomial(-5, 2)), [(1, -1), (3, 1)])
        self.assertEqual(sign_runs(Polynomial(-5, 2) * Polynomial(-5, 2)), [(1, 1)])
        self.assertEqual(sign_runs(product(Polynomial(-21, 10), Polynomial(-29, 10))), [(1, 1)])
        self.assertEqual(sign_runs(product(Polynomial(-21, 10), Polynomial(-29, 10), Polynomial(-25, 10))),
                         [(1, -1), (3, 1)])

    def test_great(self):
        """Starts of many digits, close to one another."""
        big = 10 ** 50
        one = Polynomial(-big, 1)
        self.assertEqual(sign_runs(one), [(1, -1), (big, 0), (big + 1, 1)])
        self.assertEqual(sign_runs(one * one), [(1, 1), (big, 0), (big + 1, 1)])
        pair = one * Polynomial(-big - 1, 1)
        self.assertEqual(sign_runs(pair), [(1, 1), (big, 0), (big + 2, 1)])
        apart = one * Polynomial(-big - 2, 1)
        self.assertEqual(sign_runs(apart), [(1, 1), (big, 0), (big + 1, -1), (big + 2, 0), (big + 3, 1)])
        self.assertEqual(sign_runs(product(Polynomial(-7, 1), one, one, one, Polynomial(3, 1))),
                         [(1, 1), (7, 0), (8, -1), (big, 0), (big + 1, 1)])
        self.assertEqual(sign_runs(apart + Polynomial(1)), [(1, 1), (big + 1, 0), (big + 2, 1)])
        self.assertEqual(sign_runs(apart + Polynomial(2)), [(1, 1)])
        self.assertEqual(sign_runs(Polynomial(-10 ** 59, 3)), [(1, -1), (10 ** 59 // 3 + 1, 1)])
        self.assertEqual(sign_runs(Polynomial(10 ** 59, 0, -1)), [(1, 1), (math.isqrt(10 ** 59) + 1, -1)])
        self.assertEqual(sign_runs(Polynomial(0, 0, 0, -10 ** 59, 1)), [(1, -1), (10 ** 59, 0), (10 ** 59 + 1, 1)])

    def test_signs_around_each_start(self):
        chance = seeded(38)
        for _ in range(60):
            roots = [chance.randint(1, 10 ** chance.randint(1, 30)) for _ in range(chance.randint(1, 5))]
            one = product(*[Polynomial(-root, chance.choice([1, 1, 2, -1])) for root in roots])
            runs = sign_runs(one)
            self.assertEqual(runs[0][0], 1)
            starts = [start for start, own in runs]
            self.assertEqual(starts, sorted(set(starts)))
            for (start, own), (after, following) in zip(runs, runs[1:] + [(runs[-1][0] + 10 ** 40, None)]):
                self.assertNotEqual(own, following)
                for d in {start, (start + after) // 2, after - 1, start + (after - start) // 3}:
                    self.assertEqual(sign(one.at(d)), own)
            for root in roots:
                for d in range(max(1, root // 2 - 2), root // 2 + 3):
                    self.assertEqual(sign(one.at(d)), [own for start, own in runs if start <= d][-1])

    def test_many_terms(self):
        """Also for many coefficients the starts are found."""
        row = [0] * 60
        row[59], row[58] = 1, -10 ** 20
        self.assertEqual(sign_runs(Polynomial(*row)), [(1, -1), (10 ** 20, 0), (10 ** 20 + 1, 1)])
        self.assertEqual(len(sign_runs(product(*[Polynomial(-2 * k, 1) for k in range(1, 21)]))), 41)

    def test_copies(self):
        one = Polynomial(-2, 1)
        sign_runs(one).clear()
        self.assertEqual(sign_runs(one), [(1, -1), (2, 0), (3, 1)])
