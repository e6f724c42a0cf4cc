"""Ratios of whole numbers in lowest terms."""

from math import gcd

from slitstairs.columns import is_number
from slitstairs.errors import BadRatio, NoRatio


class Ratio:
    """A ratio `top` to `bottom` in lowest terms, with `bottom` at least 1."""

    def __init__(self, top, bottom=1):
        if not is_number(top):
            raise BadRatio("top")
        if not is_number(bottom) or bottom < 1:
            raise BadRatio("bottom")
        common = gcd(top, bottom)
        self.top = top // common
        self.bottom = bottom // common

    def over(self, other):
        """Return this ratio divided by another one."""
        if other.top == 0:
            raise NoRatio()
        if other.top < 0:
            return Ratio(-self.top * other.bottom, -other.top * self.bottom)
        return Ratio(self.top * other.bottom, other.top * self.bottom)

    def __add__(self, other):
        if not isinstance(other, Ratio):
            return NotImplemented
        return Ratio(self.top * other.bottom + other.top * self.bottom, self.bottom * other.bottom)

    def __sub__(self, other):
        if not isinstance(other, Ratio):
            return NotImplemented
        return Ratio(self.top * other.bottom - other.top * self.bottom, self.bottom * other.bottom)

    def __mul__(self, other):
        if not isinstance(other, Ratio):
            return NotImplemented
        return Ratio(self.top * other.top, self.bottom * other.bottom)

    def __neg__(self):
        return Ratio(-self.top, self.bottom)

    def __eq__(self, other):
        return isinstance(other, Ratio) and self.top == other.top and self.bottom == other.bottom

    def __bool__(self):
        return bool(self.top)

    def __str__(self):
        if self.bottom == 1:
            return str(self.top)
        return f"{self.top}/{self.bottom}"
