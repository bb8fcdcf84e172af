"""The forms of chains, and what they tell of a chain alone."""

from roundwaves.chains import check_chain, value
from roundwaves.cuts import cut
from roundwaves.ratios import is_less
from roundwaves.waves import NOTHING, ONE, at_line, is_line, lines_ahead, multiplied, places_of, raised

NO_STEPS = ((1, 1), (0, 1))


def form(chain):
    """The form of the chain."""
    check_chain(chain)
    return followed(NO_STEPS, chain)


def followed(shape, chain):
    """The form of the steps behind what has this form."""
    for step in chain:
        if step[0] == "add":
            shape = raised(shape, step[1])
        elif step[0] == "times":
            shape = multiplied(shape, step[1])
        else:
            shape = cut(shape, step)
    return shape


def count_jumps(chain):
    """How many places the form of the chain tells."""
    return len(places_of(form(chain)))


def rises(chain):
    """Whether the value at a greater number is never less than that at a lesser one."""
    shape = form(chain)
    slope = shape[0]
    if is_less(slope, NOTHING):
        return False
    if is_line(shape):
        return True
    for (place, at, line), ahead in zip(shape[3], lines_ahead(shape)):
        if is_less(at, at_line(slope, place, ahead)) or is_less(at_line(slope, place, line), at):
            return False
    return True


def keeps(chain):
    """Whether the value at each value of the chain is this value itself."""
    shape = form(chain)
    if shape[0] == NOTHING:
        return keeps_values(chain, shape)
    # With a slope there is no rise: the steps once more do not lead to a longer period.
    return shape[0] == ONE and followed(shape, chain) == shape


def keeps_values(chain, shape):
    """The same for a chain whose form has the slope 0: it has single values only."""
    if is_line(shape):
        return True
    _, period, rise, places = shape
    # Other values grow faster or slower than the numbers, and cannot all be the numbers themselves.
    if rise not in (NOTHING, period):
        return False
    for _, at, line in places:
        if value(chain, at) != at or value(chain, line) != line:
            return False
    return True
