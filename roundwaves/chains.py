"""Chains of steps, and their values."""

from roundwaves.errors import InvalidChain, InvalidNumber
from roundwaves.ratios import is_fraction
from roundwaves.steps import is_step, step_value

MOST_STEPS = 4
LARGEST_IN_NUMBER = 10 ** 30


def is_chain(value):
    """Whether the value is a chain."""
    if not isinstance(value, tuple) or len(value) > MOST_STEPS:
        return False
    return all([is_step(step) for step in value])


def check_chain(chain):
    """Raise InvalidChain if this is not a chain."""
    if not is_chain(chain):
        raise InvalidChain("not a chain")


def check_number(number):
    """Raise InvalidNumber if this is not a fraction within the limits of numbers."""
    if not is_fraction(number, LARGEST_IN_NUMBER):
        raise InvalidNumber("not a fraction within the limits")


def value(chain, number):
    """The value of the chain at the fraction number."""
    check_chain(chain)
    check_number(number)
    result = number
    for step in chain:
        result = step_value(step, result)
    return result
