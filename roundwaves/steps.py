"""The steps of chains: what is one, and what each makes of a number."""

from roundwaves.ratios import is_fraction, minus, plus, times

LARGEST_IN_STEP = 10
BY_MULTIPLES = ("down", "up", "rest")
TIES = ("up", "down", "even", "odd")


def is_step(value):
    """Whether the value is a step."""
    if not isinstance(value, tuple) or len(value) < 2:
        return False
    name = value[0]
    amount = value[1]
    if not isinstance(name, str) or not is_fraction(amount, LARGEST_IN_STEP):
        return False
    if name == "near":
        return len(value) == 3 and is_tie(value[2]) and amount[0] > 0
    return len(value) == 2 and is_amount_of(name, amount)


def is_tie(value):
    """Whether the value names one of the ways to choose between two multiples that are as near."""
    return isinstance(value, str) and value in TIES


def is_amount_of(name, amount):
    """Whether a step of two entries may have this name and this fraction."""
    if name in BY_MULTIPLES:
        return amount[0] > 0
    if name == "times":
        return amount[0] != 0
    return name == "add"


def step_value(step, number):
    """The value of the step at the fraction number."""
    name = step[0]
    amount = step[1]
    if name == "add":
        return plus(number, amount)
    if name == "times":
        return times(number, amount)
    multiple = times((whole_count(step, number[0] * amount[1], number[1] * amount[0]), 1), amount)
    if name == "rest":
        return minus(number, multiple)
    return multiple


def whole_count(step, top, bottom):
    """The integer k of the multiple that the step takes at top / bottom of its fraction, for a bottom above 0."""
    low = top // bottom
    left = top - low * bottom
    if step[0] == "up":
        return low if left == 0 else low + 1
    if step[0] == "near":
        return nearest_count(low, 2 * left - bottom, step[2])
    return low


def nearest_count(low, beyond, tie):
    """Which of low and low + 1 is nearer, by how far the number lies beyond the middle between them."""
    if beyond == 0:
        return tied_count(low, tie)
    return low if beyond < 0 else low + 1


def tied_count(low, tie):
    """Which of low and low + 1 the tie chooses."""
    if tie == "down":
        return low
    if tie == "up":
        return low + 1
    is_even = low // 2 * 2 == low
    return low if is_even == (tie == "even") else low + 1
