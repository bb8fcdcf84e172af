"""How the values of two forms differ."""

from math import lcm

from roundwaves.errors import TooMany
from roundwaves.ratios import least_multiple, minus, plus, times
from roundwaves.waves import NOTHING, at_line, is_line, line_ahead, period_of, places_of

MOST_PLACES = 2000


def common_period(one, other):
    """The least fraction above 0 that is a whole multiple of the periods of both forms."""
    return least_multiple(period_of(one), period_of(other))


def check_places(one, other, end):
    """Raise TooMany if both forms together have too many places from 0 on and below the end."""
    if count_places(one, end) + count_places(other, end) > MOST_PLACES:
        raise TooMany("too many places")


def count_places(shape, end):
    """How many places the form has from 0 on and below the end, a whole multiple of its period."""
    return len(places_of(shape)) * count_periods(shape, end)


def count_periods(shape, end):
    """How many periods of the form there are from 0 to the end, a whole multiple of its period."""
    period = period_of(shape)
    return end[0] * period[1] // (end[1] * period[0])


def list_gaps(one, other, end):
    """What the values of the first form are above those of the other one, from 0 on and below the end.

    These are rows (low, high, at, slope, a): at is the difference at low, slope * x + a that at each x between low
    and high.
    """
    starts = starts_of(one, end)
    other_starts = starts_of(other, end)
    numbers = ascending(list(starts) + list(other_starts))
    slope = minus(one[0], other[0])
    gaps = []
    start = other_start = None
    for low, high in zip(numbers, numbers[1:] + [end]):
        start = start_at(starts, low, one[0], start)
        other_start = start_at(other_starts, low, other[0], other_start)
        gaps.append((low, high, minus(start[0], other_start[0]), slope, minus(start[1], other_start[1])))
    return gaps


def starts_of(shape, end):
    """The value at a number and the a of the stretch behind it, for 0 and for each place below the end."""
    if is_line(shape):
        return {NOTHING: (shape[1], shape[1])}
    slope, period, rise, places = shape
    first = line_ahead(shape)
    starts = {NOTHING: (first, first)}
    # The line s * x + a of the same stretch a period later has another a, as s * x has grown too.
    shift = minus(rise, times(slope, period))
    for turn in range(count_periods(shape, end)):
        right = times((turn, 1), period)
        up = times((turn, 1), rise)
        line_up = times((turn, 1), shift)
        for place, at, line in places:
            starts[plus(place, right)] = (plus(at, up), plus(line, line_up))
    return starts


def start_at(starts, number, slope, last):
    """The value at the number and the a of the stretch behind it; last is the same for the number ahead of it."""
    if number in starts:
        return starts[number]
    return (at_line(slope, number, last[1]), last[1])


def ascending(numbers):
    """The fractions in their order, without duplicates."""
    bottom = 1
    for number in numbers:
        bottom = lcm(bottom, number[1])
    by_top = {number[0] * (bottom // number[1]): number for number in numbers}
    return [by_top[top] for top in sorted(list(by_top))]
