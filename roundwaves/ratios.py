"""Fractions: tuples (top, bottom) in least terms, with a bottom above 0."""

from math import gcd


def is_integer(value):
    """Whether the value is an integer; True and False are none here."""
    return isinstance(value, int) and not isinstance(value, bool)


def is_fraction(value, largest):
    """Whether the value is a fraction with a top from -largest to largest and a bottom of at most largest."""
    if not isinstance(value, tuple) or len(value) != 2:
        return False
    top, bottom = value
    if not is_integer(top) or not is_integer(bottom):
        return False
    # The bounds come first: gcd would be slow for numbers far beyond them.
    if abs(top) > largest or not 1 <= bottom <= largest:
        return False
    return gcd(top, bottom) == 1


def reduced(top, bottom):
    """The fraction top / bottom, for a bottom above 0."""
    divisor = gcd(top, bottom)
    return (top // divisor, bottom // divisor)


def plus(one, other):
    """The sum of two fractions."""
    return reduced(one[0] * other[1] + other[0] * one[1], one[1] * other[1])


def minus(one, other):
    """The first fraction less the second one."""
    return plus(one, (-other[0], other[1]))


def times(one, other):
    """The product of two fractions."""
    return reduced(one[0] * other[0], one[1] * other[1])
