"""Rational numbers."""

from math import gcd

from slotsums.errors import DividedByZero, InvalidNumber
from slotsums.kinds import is_an_integer


def is_number(value):
    """Whether the value is a NUMBER: an INTEGER or a Ratio."""
    return is_an_integer(value) or isinstance(value, Ratio)


def as_ratio(number):
    """The number as a Ratio; any value that is no NUMBER is refused."""
    if isinstance(number, Ratio):
        return number
    return Ratio(number)


class Ratio:
    """A rational number in lowest terms, its bottom at least 1."""

    def __init__(self, top, bottom=1):
        if not is_an_integer(top):
            raise InvalidNumber(top)
        if not is_an_integer(bottom) or bottom == 0:
            raise InvalidNumber(bottom)
        shared = gcd(top, bottom)
        if bottom < 0:
            shared = -shared
        self._top = top // shared
        self._bottom = bottom // shared

    @property
    def top(self):
        """The integer above the line, which has the sign."""
        return self._top

    @property
    def bottom(self):
        """The integer below the line, at least 1."""
        return self._bottom

    @property
    def sign(self):
        """-1, 0 or 1."""
        if self._top == 0:
            return 0
        return 1 if self._top > 0 else -1

    @classmethod
    def total(cls, *numbers):
        """The sum of the numbers."""
        found = cls(0)
        for number in numbers:
            found = found + number
        return found

    def over(self, other):
        """This number divided by the other one."""
        right = as_ratio(other)
        if right.top == 0:
            raise DividedByZero()
        return Ratio(self._top * right.bottom, self._bottom * right.top)

    def is_below(self, other):
        """Whether this number is less than the other one."""
        right = as_ratio(other)
        return self._top * right.bottom < right.top * self._bottom

    def __add__(self, other):
        right = as_ratio(other)
        return Ratio(self._top * right.bottom + right.top * self._bottom, self._bottom * right.bottom)

    def __sub__(self, other):
        right = as_ratio(other)
        return Ratio(self._top * right.bottom - right.top * self._bottom, self._bottom * right.bottom)

    def __mul__(self, other):
        right = as_ratio(other)
        return Ratio(self._top * right.top, self._bottom * right.bottom)

    def __neg__(self):
        return Ratio(-self._top, self._bottom)

    def __eq__(self, other):
        return isinstance(other, Ratio) and self._top == other._top and self._bottom == other._bottom

    def __str__(self):
        if self._bottom == 1:
            return f"{self._top}"
        return f"{self._top}/{self._bottom}"

    def __repr__(self):
        return f"Ratio({self._top}, {self._bottom})"
