"""[5] Ratios, and [2] for them."""

from fractions import Fraction

from helpers import Case, Thing, fraction, seeded, wrong_values
from slotsums.errors import DividedByZero, InvalidNumber
from slotsums.ratios import Ratio, is_number

BIG = 10 ** 60 - 1


def pairs():
    """Fractions of all signs, some with sixty digits."""
    chance = seeded(5)
    found = [(0, 1), (0, -7), (1, 1), (-1, 1), (6, 4), (6, -4), (-6, -4), (BIG, BIG - 1), (-BIG, 3), (7, -BIG)]
    for _ in range(30):
        most = chance.choice([3, 20, BIG])
        found.append((chance.randint(-most, most), chance.choice([-1, 1]) * chance.randint(1, most)))
    return found


class RatioTest(Case):
    def test_lowest_terms(self):
        for top, bottom in pairs():
            ratio, want = Ratio(top, bottom), Fraction(top, bottom)
            self.assertEqual((ratio.top, ratio.bottom), (want.numerator, want.denominator))
            self.assertEqual(ratio.sign, (want > 0) - (want < 0))
            self.assertIs(type(ratio.top), int)
            self.assertGreaterEqual(ratio.bottom, 1)

    def test_default_and_names(self):
        self.assertEqual(Ratio(3), Ratio(3, 1))
        self.assertEqual(Ratio(top=3, bottom=6), Ratio(1, 2))
        self.assertEqual(Ratio(bottom=-6, top=3), Ratio(-1, 2))
        self.assertEqual(Ratio(1).over(other=2), Ratio(1, 2))
        self.assertIs(Ratio(1).is_below(other=2), True)
        self.assertIs(is_number(value=2), True)

    def test_texts(self):
        self.assertEqual([str(Ratio(4, -6)), str(Ratio(8, 4)), str(Ratio(0, -3)), str(Ratio(-5))],
                         ["-2/3", "2", "0", "-5"])
        self.assertEqual([repr(Ratio(4, -6)), repr(Ratio(8, 4)), repr(Ratio(0, 3))],
                         ["Ratio(-2, 3)", "Ratio(2, 1)", "Ratio(0, 1)"])
        self.assertEqual(str(Ratio(BIG, 2)), str(BIG) + "/2")

    def test_arithmetic(self):
        for top, bottom in pairs():
            for other in [Ratio(*pair) for pair in pairs()[::3]] + [0, 1, -5, BIG]:
                ratio, want, number = Ratio(top, bottom), Fraction(top, bottom), fraction(other)
                self.assertEqual(fraction(ratio + other), want + number)
                self.assertEqual(fraction(ratio - other), want - number)
                self.assertEqual(fraction(ratio * other), want * number)
                self.assertIs(ratio.is_below(other), want < number)
                if number:
                    self.assertEqual(fraction(ratio.over(other)), want / number)
                for result in (ratio + other, ratio - other, ratio * other, -ratio):
                    self.assertIs(type(result), Ratio)
            self.assertEqual(fraction(-Ratio(top, bottom)), -Fraction(top, bottom))

    def test_results_in_lowest_terms(self):
        total = Ratio(1, 6) + Ratio(1, 3)
        self.assertEqual((total.top, total.bottom), (1, 2))
        divided = Ratio(2, 3).over(Ratio(-4, 3))
        self.assertEqual((divided.top, divided.bottom), (-1, 2))

    def test_total(self):
        self.assertEqual(Ratio.total(), Ratio(0))
        self.assertEqual(Ratio.total(1, Ratio(1, 2), -3), Ratio(-3, 2))
        self.assertEqual(Ratio.total(*[Ratio(1, k) for k in range(1, 5)]), Ratio(25, 12))
        self.assertIs(type(Ratio.total(2)), Ratio)
        self.refuses(InvalidNumber, {"value": "x"}, Ratio.total, 1, "x", None)
        self.refuses(InvalidNumber, {"value": True}, Ratio.total, True)

    def test_equal(self):
        self.assertTrue(Ratio(2, 4) == Ratio(1, 2))
        self.assertFalse(Ratio(2, 4) != Ratio(1, 2))
        for one, other in ((Ratio(1, 2), Ratio(-1, 2)), (Ratio(1, 2), Ratio(1, 3)), (Ratio(2, 5), Ratio(3, 5))):
            self.assertFalse(one == other)
            self.assertTrue(one != other)
        for other in (1, "1", None, True, Fraction(1), (1, 1), Thing()):
            self.assertFalse(Ratio(1) == other)
            self.assertFalse(other == Ratio(1))
            self.assertTrue(Ratio(1) != other)

    def test_is_number(self):
        for value in (0, -3, BIG, Ratio(1, 2), Ratio(0)):
            self.assertIs(is_number(value), True)
        for value in (None, True, False, "1", [1], (1, 2), {}, Thing(), int, b"1"):
            self.assertIs(is_number(value), False)

    def test_wrong_parts(self):
        for value in wrong_values():
            if isinstance(value, int) and not isinstance(value, bool):
                continue
            self.refuses(InvalidNumber, {"value": value}, Ratio, value)
            self.refuses(InvalidNumber, {"value": value}, Ratio, 1, value)
            self.refuses(InvalidNumber, {"value": value}, Ratio, value, "later")
            self.refuses(InvalidNumber, {"value": value}, Ratio, value, 0)
        self.refuses(InvalidNumber, {"value": 0}, Ratio, 0, 0)
        self.refuses(InvalidNumber, {"value": 0}, Ratio, 5, bottom=0)

    def test_wrong_numbers(self):
        ratio = Ratio(1, 2)
        for value in wrong_values():
            if is_number(value):
                continue
            told = {"value": value}
            self.refuses(InvalidNumber, told, ratio.over, value)
            self.refuses(InvalidNumber, told, ratio.is_below, value)
            self.refuses(InvalidNumber, told, lambda: ratio + value)
            self.refuses(InvalidNumber, told, lambda: ratio - value)
            self.refuses(InvalidNumber, told, lambda: ratio * value)
        self.assertEqual(ratio, Ratio(1, 2))

    def test_divided_by_zero(self):
        self.refuses(DividedByZero, {}, Ratio(1).over, 0)
        self.refuses(DividedByZero, {}, Ratio(0).over, Ratio(0, 5))

    def test_unchanged(self):
        one, other = Ratio(1, 2), Ratio(1, 3)
        for _ in range(2):
            self.assertEqual([one + other, one - other, one * other, -one, one.over(other)],
                             [Ratio(5, 6), Ratio(1, 6), Ratio(1, 6), Ratio(-1, 2), Ratio(3, 2)])
        self.assertEqual([one, other], [Ratio(1, 2), Ratio(1, 3)])
