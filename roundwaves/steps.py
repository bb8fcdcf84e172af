"""The steps of chains: what is one, and what each makes of a number."""

from roundwaves.ratios import is_fraction, minus, plus, times

LARGEST_IN_STEP = 10
BY_MULTIPLES = ("down", "up", "rest")
TIES = ("up", "down", "even", "odd")


def is_step(value):
    """Whether the value is a step."""
    if not isinstance(value, tuple) or len(value) < 2:
        return False
    name = value[0]
    amount = value[1]
    if not isinstance(name, str) or not is_fraction(amount, LARGEST_IN_STEP):
        return False
    if name == "near":
        return len(value) == 3 and is_tie(value[2]) and amount[0] > 0
    return len(value) == 2 and is_amount_of(name, amount)


def is_tie(value):
    """Whether the value names one of the ways to choose between two multiples that are as near."""
    return isinstance(value, str) and value in TIES


def is_amount_of(name, amount):
    """Whether a step of two entries may have this name and this fraction."""
    if name in BY_MULTIPLES:
        return amount[0] > 0
    if name == "times":
        return amount[0] != 0
    return name == "add"


def step_value(step, number):
    """The value of the step at the fraction number."""
    name = step[0]
    amount = step[1]
    if name == "add":
        return plus(number, amount)
    if name == "times":
        return times(number, amount)
    if name == "rest":
        return minus(number, times((count_below(number, amount), 1), amount))
    return times((multiple_count(step, number), 1), amount)


def multiple_count(step, number):
    """The integer k for which the rounding step gives k times its fraction at the number."""
    low = count_below(number, step[1])
    if step[0] == "down":
        return low
    beyond = minus(number, times((low, 1), step[1]))
    if step[0] == "up":
        return low if beyond[0] == 0 else low + 1
    return nearest_count(low, beyond, step[1], step[2])


def count_below(number, unit):
    """The greatest integer k for which k times the unit is not greater than the number."""
    return (number[0] * unit[1]) // (number[1] * unit[0])


def nearest_count(low, beyond, unit, tie):
    """Which of low and low + 1 is meant, for a number that lies by beyond above low times the unit."""
    more = minus(plus(beyond, beyond), unit)[0]
    if more == 0:
        return tied_count(low, tie)
    return low if more < 0 else low + 1


def tied_count(low, tie):
    """Which of low and low + 1 the tie chooses."""
    if tie == "down":
        return low
    if tie == "up":
        return low + 1
    is_even = low // 2 * 2 == low
    return low if is_even == (tie == "even") else low + 1
