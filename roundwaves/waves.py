"""Forms of chains, and what adding and multiplying make of them.

A form is a line (slope, a), or a wave (slope, period, rise, places) with places (place, value, a).
"""

from roundwaves.ratios import inverse, minus, plus, times

NOTHING = (0, 1)
ONE = (1, 1)


def is_line(shape):
    """Whether the form is that of a chain without places."""
    return len(shape) == 2


def period_of(shape):
    """The period of the form; 1 if it has no places."""
    return ONE if is_line(shape) else shape[1]


def places_of(shape):
    """The places that the form tells."""
    return () if is_line(shape) else shape[3]


def growth_of(shape):
    """How fast the form grows over all numbers."""
    return shape[0] if is_line(shape) else times(shape[2], inverse(shape[1]))


def at_line(slope, number, line):
    """The value of slope * number + line."""
    return plus(times(slope, number), line)


def line_ahead(wave):
    """The a of the stretch that ends at the first place: that behind the last place, a period earlier."""
    slope, period, rise, places = wave
    return plus(places[-1][2], minus(times(slope, period), rise))


def lines_ahead(wave):
    """The a of the stretch ahead of each place."""
    return [line_ahead(wave)] + [line for _, _, line in wave[3][:-1]]


def raised(shape, amount):
    """The form with this fraction added to all values."""
    if is_line(shape):
        return (shape[0], plus(shape[1], amount))
    slope, period, rise, places = shape
    return (slope, period, rise, tuple([(x, plus(at, amount), plus(line, amount)) for x, at, line in places]))


def multiplied(shape, factor):
    """The form with all values multiplied by this fraction, which is unlike 0."""
    slope = times(shape[0], factor)
    if is_line(shape):
        return (slope, times(shape[1], factor))
    places = [(x, times(at, factor), times(line, factor)) for x, at, line in shape[3]]
    return (slope, shape[1], times(shape[2], factor), tuple(places))
