"""What the steps down, up, near and rest make of forms.

Here a wave is worked on in whole numbers. A mark is a tuple (x, ahead, at, behind): the value at x, between the
values that are come to from the lesser and from the greater numbers.
"""

from math import gcd, lcm

from roundwaves.ratios import inverse, reduced, size, times
from roundwaves.steps import whole_count
from roundwaves.waves import NOTHING, ONE, is_line, line_ahead, multiplied


def cut(shape, step):
    """The form of a chain that ends in this step, by the form of the chain ahead of it."""
    # Where the slope is 1, 0 or -1, places and values lie on one grid.
    steepness = size(shape[0]) if shape[0] != NOTHING else ONE
    even = multiplied(shape, inverse(steepness))
    unit = times(step[1], inverse(steepness))
    return multiplied(cut_even(even, step, unit), steepness)


def cut_even(shape, step, unit):
    """As cut, for a slope of 1, 0 or -1, with this unit in the place of the step's fraction."""
    span = times(unit, (span_in_units(step), 1))
    wave = as_wave(shape, span)
    bottom = grid_bottom(wave, unit)
    width = on_grid(unit, bottom)
    sign = wave[0][0]
    period = on_grid(wave[1], bottom)
    rise = on_grid(wave[2], bottom)
    marks = marks_of(wave, bottom)
    marks = sorted(marks + crossings(marks, sign, period, step, width))
    # The step repeats itself only where the values have grown by whole spans.
    span = span_in_units(step) * width
    copies = span // gcd(rise, span)
    marks = stepped_marks(repeated(marks, period, rise, copies), sign, step, width)
    if step[0] == "rest":
        return from_grid((sign, period * copies, 0, marks), bottom)
    return from_grid((0, period * copies, rise * copies, marks), bottom)


def span_in_units(step):
    """After how many multiples of its fraction the step repeats itself."""
    if step[0] == "near" and step[2] in ("even", "odd"):
        return 2
    return 1


def as_wave(shape, span):
    """The form as a wave; for a line one in which the values grow by the span, and which is told from 0 on."""
    if not is_line(shape):
        return shape
    slope, line = shape
    return (slope, span, times(slope, span), ((NOTHING, line, line),))


def grid_bottom(wave, unit):
    """A bottom for all fractions of the wave and for half the unit."""
    _, period, rise, places = wave
    bottom = lcm(period[1], rise[1], 2 * unit[1])
    for x, at, line in places:
        bottom = lcm(bottom, x[1], at[1], line[1])
    # By the 2 there is a whole number between any two that stand for fractions.
    return 2 * bottom


def on_grid(fraction, bottom):
    """The top of the fraction with this bottom."""
    return fraction[0] * (bottom // fraction[1])


def marks_of(wave, bottom):
    """The marks of the wave's places."""
    marks = []
    sign = wave[0][0]
    last = on_grid(line_ahead(wave), bottom)
    for place, at, line in wave[3]:
        x = on_grid(place, bottom)
        behind = on_grid(line, bottom)
        marks.append((x, sign * x + last, on_grid(at, bottom), sign * x + behind))
        last = behind
    return marks


def crossings(marks, sign, period, step, width):
    """Marks at the numbers between those of the marks at which the step jumps."""
    if sign == 0:
        return []
    middle = width // 2 if step[0] == "near" else 0
    found = []
    ends = [mark[0] for mark in marks[1:]] + [marks[0][0] + period]
    for (x, _, _, behind), end in zip(marks, ends):
        first = width - (sign * (behind - middle)) % width
        for far in range(first, end - x, width):
            value = behind + sign * far
            # Past the period the values are those from 0 on: with a slope, a wave with a rise starts at 0.
            found.append(((x + far) % period, value, value, value))
    return found


def repeated(marks, period, rise, copies):
    """The marks of so many periods."""
    found = []
    for at in range(copies):
        right = at * period
        up = at * rise
        found.extend([(x + right, ahead + up, told + up, behind + up) for x, ahead, told, behind in marks])
    return found


def stepped_marks(marks, sign, step, width):
    """The marks with the values that the step makes of theirs."""
    found = []
    for x, ahead, at, behind in marks:
        # Beside x the values are not yet, or no longer, those that they come to; only if sign is 0 they are.
        ahead = stepped_value(step, width, ahead, ahead - sign)
        behind = stepped_value(step, width, behind, behind + sign)
        found.append((x, ahead, stepped_value(step, width, at, at), behind))
    return found


def stepped_value(step, width, value, beside):
    """What the step makes of the value, if its multiple is that of the value beside it."""
    multiple = whole_count(step, beside, width) * width
    return value - multiple if step[0] == "rest" else multiple


def from_grid(course, bottom):
    """The form of a wave in whole numbers; some of its marks may be no places, or all."""
    sign, period, rise, marks = course
    places = [mark for mark in marks if not mark[1] == mark[2] == mark[3]]
    if not places:
        # With a slope a rest always jumps, so that the values are all the same here.
        return (NOTHING, reduced(marks[0][2], bottom))
    many = least_many(places, period, rise)
    parts = len(places) // many
    told = [
        (reduced(x, bottom), reduced(at, bottom), reduced(behind - sign * x, bottom))
        for x, _, at, behind in places[:many]
    ]
    return ((sign, 1), reduced(period // parts, bottom), reduced(rise // parts, bottom), tuple(told))


def least_many(places, period, rise):
    """How many of the places the least period has."""
    for many in range(1, len(places)):
        if len(places) % many == 0 and is_repeated(places, many, period, rise):
            return many
    return len(places)


def is_repeated(places, many, period, rise):
    """Whether the places are the first ones of them over and over again, with equal parts of period and rise."""
    parts = len(places) // many
    if period % parts != 0 or rise % parts != 0:
        return False
    right = period // parts
    up = rise // parts
    for (x, _, at, behind), later in zip(places, places[many:]):
        if (x + right, at + up, behind + up) != (later[0], later[2], later[3]):
            return False
    return True
