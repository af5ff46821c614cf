"""Polynomials with integers as coefficients and one variable, d."""

from slotsums.errors import InvalidNumber, InvalidPolynomial
from slotsums.kinds import is_an_integer
from slotsums.signs import signs_from_one, worth_at


def power_text(coefficient, exponent):
    """A term without its sign, for a coefficient above 0."""
    if exponent == 0:
        return str(coefficient)
    variable = "d" if exponent == 1 else f"d^{exponent}"
    return variable if coefficient == 1 else f"{coefficient} {variable}"


def signed_text(coefficient, exponent, is_first):
    """A term with the sign that stands in front of it."""
    own = power_text(abs(coefficient), exponent)
    if is_first:
        return f"-{own}" if coefficient < 0 else own
    return f" - {own}" if coefficient < 0 else f" + {own}"


def polynomial_text(coefficients):
    """The text of a polynomial, for its coefficients."""
    degree = len(coefficients) - 1
    pieces = [signed_text(coefficients[exponent], exponent, exponent == degree)
              for exponent in range(degree, -1, -1) if coefficients[exponent] != 0]
    return "".join(pieces) if pieces else "0"


def listed_numbers(numbers):
    """Integers in a row, separated by commas."""
    return ", ".join([str(number) for number in numbers])


def filled_up(coefficients, many):
    """The coefficients with so many of them, those that they do not have as 0."""
    return list(coefficients) + [0] * (many - len(coefficients))


class Polynomial:
    """A polynomial in d, its coefficients with the lowest exponent first."""

    def __init__(self, *coefficients):
        for coefficient in coefficients:
            if not is_an_integer(coefficient):
                raise InvalidNumber(coefficient)
        many = len(coefficients)
        while many > 0 and coefficients[many - 1] == 0:
            many -= 1
        self._coefficients = coefficients[:many]

    @property
    def degree(self):
        """The greatest exponent with a coefficient other than 0; -1 if there is none."""
        return len(self._coefficients) - 1

    def coefficients(self):
        """The coefficients, as a tuple that does not end in 0."""
        return self._coefficients

    def at(self, d):
        """The value at d."""
        if not is_an_integer(d):
            raise InvalidNumber(d)
        return worth_at(self._coefficients, d)

    def __add__(self, other):
        if not isinstance(other, Polynomial):
            raise InvalidPolynomial(other)
        many = max(len(self._coefficients), len(other._coefficients))
        ones, others = filled_up(self._coefficients, many), filled_up(other._coefficients, many)
        sums = [own + more for own, more in zip(ones, others)]
        return Polynomial(*sums)

    def __sub__(self, other):
        if not isinstance(other, Polynomial):
            raise InvalidPolynomial(other)
        many = max(len(self._coefficients), len(other._coefficients))
        ones, others = filled_up(self._coefficients, many), filled_up(other._coefficients, many)
        rests = [own - less for own, less in zip(ones, others)]
        return Polynomial(*rests)

    def __mul__(self, other):
        if not isinstance(other, Polynomial):
            raise InvalidPolynomial(other)
        found = [0] * (len(self._coefficients) + len(other._coefficients))
        for at, own in enumerate(self._coefficients):
            for to, times in enumerate(other._coefficients):
                found[at + to] = found[at + to] + own * times
        return Polynomial(*found)

    def __neg__(self):
        negatives = [-coefficient for coefficient in self._coefficients]
        return Polynomial(*negatives)

    def __eq__(self, other):
        return isinstance(other, Polynomial) and self._coefficients == other._coefficients

    def __str__(self):
        return f"{polynomial_text(self._coefficients)}"

    def __repr__(self):
        return f"Polynomial({listed_numbers(self._coefficients)})"


def sign_runs(polynomial):
    """The list of tuples (start, sign): the longest stretches of d = 1, 2, .. with one sign of the value."""
    if not isinstance(polynomial, Polynomial):
        raise InvalidPolynomial(polynomial)
    return signs_from_one(polynomial.coefficients())
