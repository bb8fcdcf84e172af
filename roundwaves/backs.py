"""The numbers at which a chain has a value.

A stretch is a tuple (low, high, low_in, high_in); a piece is a stretch, and slope and a of the values on it.
"""

from roundwaves.chains import check_chain, check_number
from roundwaves.forms import form
from roundwaves.ratios import inverse, is_less, minus, plus, times
from roundwaves.waves import NOTHING, is_line, line_ahead

ALL_NUMBERS = (None, None, False, False)


def sources(chain, number):
    """The stretches of all numbers at which the value of the chain is this number."""
    check_chain(chain)
    check_number(number)
    shape = form(chain)
    if is_line(shape):
        return line_sources(shape, number)
    found = []
    for at, piece in enumerate(pieces_of(shape)):
        source = source_in(piece, number, shape)
        if source is not None:
            turn, stretch = source
            found.append((turn, at, stretch))
    # Periods follow each other, and in each of them the pieces do.
    return merged([stretch for _, _, stretch in sorted(found)])


def is_given(chain, number):
    """Whether the chain has the number as its value anywhere."""
    return sources(chain, number) != ()


def line_sources(line, number):
    """The stretches for a form without places."""
    slope, a = line
    if slope != NOTHING:
        return (single(number_on_line(slope, a, number)),)
    return (ALL_NUMBERS,) if a == number else ()


def single(number):
    """The stretch of a single number."""
    return (number, number, True, True)


def number_on_line(slope, a, value):
    """The number at which slope * x + a is the value, for a slope unlike 0."""
    return times(minus(value, a), inverse(slope))


def pieces_of(wave):
    """The pieces from 0 on and below the period: each place by itself, and the stretches between."""
    slope, period, _, places = wave
    pieces = []
    if places[0][0] != NOTHING:
        pieces.append((NOTHING, places[0][0], True, False, slope, line_ahead(wave)))
    ends = [place for place, _, _ in places[1:]] + [period]
    for (place, at, line), end in zip(places, ends):
        pieces.append((place, place, True, True, NOTHING, at))
        pieces.append((place, end, False, False, slope, line))
    return pieces


def source_in(piece, number, wave):
    """The turn in which the piece has the number as its value, and the stretch of it then; None if there is none."""
    low, high, low_in, high_in, slope, a = piece
    _, period, rise, _ = wave
    if slope == NOTHING:
        turn = turn_between(a, number, rise)
        if turn is None:
            return None
        right = times((turn, 1), period)
        return (turn, (plus(low, right), plus(high, right), low_in, high_in))
    # With a slope there is no rise: what has places and keeps a slope has taken a rest.
    x = number_on_line(slope, a, number)
    is_inside = (is_less(low, x) or (low_in and x == low)) and is_less(x, high)
    return (0, single(x)) if is_inside else None


def turn_between(value, number, rise):
    """How many periods lie between the value and the number; None if they are no whole ones."""
    if rise == NOTHING:
        return 0 if value == number else None
    turns = times(minus(number, value), inverse(rise))
    return turns[0] if turns[1] == 1 else None


def merged(stretches):
    """The ascending stretches, as few as possible."""
    found = []
    for low, high, low_in, high_in in stretches:
        if found and found[-1][1] == low and (found[-1][3] or low_in):
            low, _, low_in, _ = found.pop()
        found.append((low, high, low_in, high_in))
    return tuple(found)
