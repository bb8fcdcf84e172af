"""Fractions: tuples (top, bottom) in least terms, with a bottom above 0."""

from math import gcd, lcm


def is_integer(value):
    """Whether the value is an integer; True and False are none here."""
    return isinstance(value, int) and not isinstance(value, bool)


def is_fraction(value, largest):
    """Whether the value is a fraction with a top from -largest to largest and a bottom of at most largest."""
    if not isinstance(value, tuple) or len(value) != 2:
        return False
    top, bottom = value
    if not is_integer(top) or not is_integer(bottom):
        return False
    # The bounds come first: gcd would be slow for numbers far beyond them.
    if abs(top) > largest or not 1 <= bottom <= largest:
        return False
    return gcd(top, bottom) == 1


def reduced(top, bottom):
    """The fraction top / bottom, for a bottom above 0."""
    divisor = gcd(top, bottom)
    return (top // divisor, bottom // divisor)


def plus(one, other):
    """The sum of two fractions."""
    return reduced(one[0] * other[1] + other[0] * one[1], one[1] * other[1])


def minus(one, other):
    """The first fraction less the second one."""
    return plus(one, (-other[0], other[1]))


def times(one, other):
    """The product of two fractions."""
    return reduced(one[0] * other[0], one[1] * other[1])


def inverse(fraction):
    """The fraction by which this one, unlike 0, gives 1."""
    top, bottom = fraction
    return (bottom, top) if top > 0 else (-bottom, -top)


def size(fraction):
    """The absolute value of the fraction."""
    return (abs(fraction[0]), fraction[1])


def is_less(one, other):
    """Whether the first fraction is less than the other one."""
    return one[0] * other[1] < other[0] * one[1]


def least_multiple(one, other):
    """The least fraction above 0 that is a whole multiple of both fractions, which are above 0."""
    return reduced(lcm(one[0], other[0]), gcd(one[1], other[1]))


def simplest_between(low, high):
    """The simplest fraction above low and below high, for 0 <= low < high; high may be (1, 0), above all numbers."""
    whole = low[0] // low[1]
    if (whole + 1) * high[1] < high[0]:
        return (whole + 1, 1)
    # All of them are whole + 1 / y for a y of this kind, and the simplest one comes from the simplest y.
    above = (high[1], high[0] - whole * high[1])
    below = (low[1], low[0] - whole * low[1])
    top, bottom = simplest_between(above, below)
    return (whole * top + bottom, top)
