"""The texts of chains."""

from roundwaves.chains import MOST_STEPS, check_chain, is_chain
from roundwaves.errors import InvalidText
from roundwaves.steps import LARGEST_IN_STEP


def format_chain(chain):
    """The text of the chain."""
    check_chain(chain)
    return "; ".join([step_text(step) for step in chain])


def step_text(step):
    """The text of the step."""
    return " ".join([step[0], fraction_text(step[1])] + list(step[2:]))


def fraction_text(fraction):
    """The text of the fraction."""
    top, bottom = fraction
    if bottom == 1:
        return str(top)
    return f"{top}/{bottom}"


def parse_chain(text):
    """The chain with this text."""
    if not isinstance(text, str):
        raise InvalidText("not a string")
    if text == "":
        return ()
    parts = text.split("; ")
    if len(parts) > MOST_STEPS:
        raise InvalidText("too many steps")
    chain = tuple([told_step(part) for part in parts])
    if not is_chain(chain):
        raise InvalidText("not the text of a chain")
    return chain


def told_step(part):
    """What the text tells as a step; it need not be one."""
    words = part.split(" ")
    if len(words) < 2:
        return None
    return (words[0], told_fraction(words[1])) + tuple(words[2:])


def told_fraction(word):
    """What the text tells as a fraction; it need not be one."""
    top, slash, bottom = word.partition("/")
    if slash == "":
        return (told_integer(top), 1)
    # A bottom of 1 is never written.
    if bottom == "1":
        return None
    return (told_integer(top), told_integer(bottom))


def told_integer(word):
    """The integer within the limits of steps that has this text; None if there is none."""
    # int(..) would also take other writings of a number, and fails at very many digits.
    integers = {str(n): n for n in range(-LARGEST_IN_STEP, LARGEST_IN_STEP + 1)}
    return integers.get(word)
