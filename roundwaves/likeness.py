"""Whether chains have the same values, where and by how much they have not, and chains with steps changed."""

from roundwaves.chains import MOST_STEPS, check_chain
from roundwaves.errors import InvalidStep, TooMany
from roundwaves.forms import form
from roundwaves.gaps import check_places, common_period, list_gaps
from roundwaves.ratios import inverse, is_integer, is_less, minus, plus, simplest_between, size, times
from roundwaves.waves import NOTHING, ONE, at_line, growth_of


def same(chain, other):
    """Whether both chains have the same value at every real number."""
    one, two = forms_of(chain, other)
    return one == two


def forms_of(chain, other):
    """The forms of both chains."""
    return (form(chain), form(other))


def parting(chain, other):
    """The simplest fraction from 0 on and below twice common at which the values are unlike; None if there is none."""
    one, two = forms_of(chain, other)
    end = times((2, 1), common_period(one, two))
    check_places(one, two, end)
    if one == two:
        return None
    found = []
    for gap in list_gaps(one, two, end):
        found.extend(simplest_unlike(gap))
    bottom, top = min([(number[1], number[0]) for number in found])
    return (top, bottom)


def simplest_unlike(gap):
    """The simplest numbers at which a difference is unlike 0: at its lower end, and on each side of where it is 0."""
    low, high, at, slope, line = gap
    found = [low] if at != NOTHING else []
    if slope == NOTHING:
        if line != NOTHING:
            found.append(simplest_between(low, high))
        return found
    zero = minus(NOTHING, times(line, inverse(slope)))
    if is_less(low, zero) and is_less(zero, high):
        return found + [simplest_between(low, zero), simplest_between(zero, high)]
    return found + [simplest_between(low, high)]


def unlike_share(chain, other):
    """The share of all numbers at which both chains have unlike values."""
    common, gaps = compared(chain, other)
    if gaps is None:
        return ONE
    total = NOTHING
    for low, high, _, slope, line in gaps:
        # With a slope they are alike at one number of the stretch at the most.
        if slope != NOTHING or line != NOTHING:
            total = plus(total, minus(high, low))
    return times(total, inverse(common))


def greatest_gap(chain, other):
    """How far apart the values come at the most, and whether they are so anywhere; None if they grow unlike."""
    _, gaps = compared(chain, other)
    if gaps is None:
        return None
    greatest = (NOTHING, True)
    for low, high, at, slope, line in gaps:
        is_level = slope == NOTHING
        greatest = greater_gap(greatest, (size(at), True))
        greatest = greater_gap(greatest, (size(at_line(slope, low, line)), is_level))
        greatest = greater_gap(greatest, (size(at_line(slope, high, line)), is_level))
    return greatest


def compared(chain, other):
    """The length common, and the differences up to there; None in their place if the chains do not grow alike."""
    one, two = forms_of(chain, other)
    common = common_period(one, two)
    check_places(one, two, common)
    if growth_of(one) != growth_of(two):
        return (common, None)
    return (common, list_gaps(one, two, common))


def greater_gap(gap, other):
    """The greater one of two pairs of a difference and whether it is reached; of equal ones, one that is."""
    if is_less(gap[0], other[0]) or (gap[0] == other[0] and other[1]):
        return other
    return gap


def needless(chain):
    """The numbers of the steps that can be left out, each by itself, without a change of any value."""
    shape = form(chain)
    return tuple([at for at in range(len(chain)) if form(without(chain, at)) == shape])


def exchangeable(chain):
    """The numbers of the steps that can be exchanged with the next one without a change of any value."""
    shape = form(chain)
    return tuple([at for at in range(len(chain) - 1) if form(exchanged(chain, at)) == shape])


def without(chain, at):
    """The chain without the step with this number."""
    return chain[:at] + chain[at + 1:]


def exchanged(chain, at):
    """The chain with this step and the next one exchanged."""
    return chain[:at] + (chain[at + 1], chain[at]) + chain[at + 2:]


def joined(chain, other):
    """The chain of the steps of the one and then of the other one."""
    check_chain(chain)
    check_chain(other)
    if len(chain) + len(other) > MOST_STEPS:
        raise TooMany("too many steps")
    return chain + other


def left_out(chain, at):
    """The chain without the step with this number."""
    check_chain(chain)
    if not is_integer(at) or not 0 <= at < len(chain):
        raise InvalidStep("there is no step with this number")
    return without(chain, at)
