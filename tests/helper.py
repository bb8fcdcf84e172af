"""What the tests share: a second, plain reading of the document, and values that must be rejected.

Nothing here uses the package, so that both can be compared.
"""

from fractions import Fraction
from math import floor, gcd

TIES = ("up", "down", "even", "odd")
WITH_MULTIPLES = ("down", "up", "rest")

# Every fraction that a step may have, up to the sign and 0.
POSITIVE = [(top, bottom) for bottom in range(1, 11) for top in range(1, 11) if gcd(top, bottom) == 1]
NEGATIVE = [(-top, bottom) for top, bottom in POSITIVE]

ALL_STEPS = (
    [(name, m) for name in WITH_MULTIPLES for m in POSITIVE]
    + [("near", m, tie) for tie in TIES for m in POSITIVE]
    + [("add", c) for c in POSITIVE + NEGATIVE + [(0, 1)]]
    + [("times", r) for r in POSITIVE + NEGATIVE]
)

# A few steps of each kind, for chains of several.
SOME_STEPS = [
    ("down", (1, 1)), ("down", (3, 10)), ("up", (1, 2)), ("up", (7, 3)),
    ("near", (1, 1), "up"), ("near", (3, 2), "down"), ("near", (1, 10), "even"), ("near", (10, 7), "odd"),
    ("add", (1, 2)), ("add", (-10, 3)), ("times", (-1, 1)), ("times", (5, 2)), ("times", (-3, 10)),
    ("rest", (1, 1)), ("rest", (9, 4)),
]


def pair(number):
    """The tuple (top, bottom) of a Fraction."""
    return (number.numerator, number.denominator)


def plain_step_value(step, x):
    """The value of the step at the Fraction x, as 2.2 words it."""
    amount = Fraction(*step[1])
    if step[0] == "add":
        return x + amount
    if step[0] == "times":
        return x * amount
    around = range(floor(x / amount) - 2, floor(x / amount) + 4)
    lower = max(k for k in around if k * amount <= x)
    if step[0] == "down":
        return lower * amount
    if step[0] == "rest":
        return x - lower * amount
    if step[0] == "up":
        return min(k for k in around if k * amount >= x) * amount
    least = min(abs(k * amount - x) for k in around)
    nearest = [k for k in around if abs(k * amount - x) == least]
    if len(nearest) == 1:
        return nearest[0] * amount
    chosen = {
        "up": max(nearest),
        "down": min(nearest),
        "even": [k for k in nearest if k % 2 == 0][0],
        "odd": [k for k in nearest if k % 2 == 1][0],
    }
    return chosen[step[2]] * amount


def plain_value(chain, number):
    """The value of the chain at the fraction number, a tuple as the number is."""
    x = Fraction(*number)
    for step in chain:
        x = plain_step_value(step, x)
    return pair(x)


def plain_text(chain):
    """The text of the chain, as section 4 words it."""
    texts = []
    for name, (top, bottom), *tie in chain:
        fraction = str(top) if bottom == 1 else str(top) + "/" + str(bottom)
        texts.append(" ".join([name, fraction, *tie]))
    return "; ".join(texts)


def nested(kind, depth):
    """A tuple, a list or a dict that is nested this deep."""
    inner = "down"
    for _ in range(depth):
        inner = {"tuple": (inner,), "list": [inner], "dict": {"down": inner}}[kind]
    return inner


# Within a step of a chain these are 30 deep at the most; alone DEEPEST are.
DEEP = [nested(kind, depth) for kind in ("tuple", "list", "dict") for depth in (1, 2, 28)]
DEEPEST = [nested(kind, 30) for kind in ("tuple", "list", "dict")]

# What is neither a tuple nor an integer.
OTHER_KINDS = [
    None, True, False, 0.0, 1.0, 0.5, -1.5, float("nan"), float("inf"), "", "down", "1", "1/1", "down 1",
    [], {}, [1, 1], [None], {"down": 1}, {1: 1},
]

# No fractions, whatever the limits are.
NO_FRACTIONS = OTHER_KINDS + DEEP + [
    0, 1, -1, 10 ** 40,
    (), (1,), (1, 1, 1), (0, 1, 0), ((1, 1),), ((1, 1), (1, 1)), ((1, 1), 1), (1, (1, 1)),
    (True, 1), (1, True), (False, 1), (True, True), (-1, True), (1.0, 1), (1, 1.0), (0.0, 1), (0.5, 1),
    ("1", 1), (1, "1"), ("1", "1"), ("1", "/"), (None, 1), (1, None), (None, None),
    ([1], 1), (1, [1]), ({}, 1), (1, {}), (float("nan"), 1), (1, float("inf")),
    (1, 0), (0, 0), (-1, 0), (1, -1), (-1, -1), (0, -1), (3, -2), (10, -1), (1, -10),
    (2, 2), (2, 4), (-2, 4), (10, 10), (-10, 10), (6, 9), (9, 6), (10, 2), (-10, 5), (0, 2), (0, 3), (0, 10),
]

# Fractions that lie beyond the limits of steps.
TOO_LARGE_IN_STEPS = [
    (11, 1), (-11, 1), (1, 11), (-1, 11), (10, 11), (-10, 11), (11, 10), (-11, 10), (0, 11),
    (100, 1), (1, 100), (10 ** 30, 1), (1, 10 ** 30), (10 ** 5000, 1), (1, 10 ** 5000), (-10 ** 5000, 7),
]

# What is no chain, no step and no tie either, without regard to its place.
NO_NAMES = OTHER_KINDS[:7] + DEEP + [
    0, 1, "", " ", "Down", "DOWN", "Near", "downs", "dow", "down ", " down", "down\n", "round", "nearest", "floor",
    "plus", "odd", "even", "1", "down 1", [], ["down"], ("down",), ("near",), {"down": 1},
]
NO_TIES = OTHER_KINDS[:7] + DEEP + [
    0, 1, "", " ", "Up", "UP", "Even", "ups", "u", "up ", " up", "up\n", "near", "zero", "half", "add",
    [], ["up"], ("up",), ("even",), {"up": 1}, (1, 1),
]


def steps_with(fraction):
    """A tuple of each kind of step with this in the place of its fraction."""
    return [
        ("down", fraction), ("up", fraction), ("rest", fraction), ("add", fraction), ("times", fraction),
        ("near", fraction, "up"), ("near", fraction, "odd"),
    ]


def list_bad_steps():
    """Values that are no steps."""
    bad = list(OTHER_KINDS) + DEEP + [
        1, 10 ** 40, (), ("down",), ("up",), ("rest",), ("add",), ("times",), ("near",),
        ("near", (1, 1)), ("near", "up"), ("near", "up", (1, 1)), ("down", "up"), ((1, 1), "down"), ((1, 1),),
        ((1, 1), (1, 1)), ("down", 1, 1), ("add", 1, 1), (("down", (1, 1)),), (("down", (1, 1)), ("up", (1, 1))),
        ("near", (1, 1), "up", "up"), ("near", (1, 1), "up", None), ("near", (1, 1), "up", ()),
    ]
    for name in ("down", "up", "rest", "add", "times"):
        bad += [
            (name, (1, 1), "up"), (name, (1, 1), None), (name, (1, 1), ()), (name, (1, 1), (1, 1)),
            (name, (1, 1), "up", "up"), [name, (1, 1)], [name, [1, 1]],
        ]
    bad += [(name, (1, 1)) for name in NO_NAMES] + [(name, (1, 1), "up") for name in NO_NAMES]
    bad += [("near", (1, 1), tie) for tie in NO_TIES] + [["near", (1, 1), "up"]]
    for fraction in NO_FRACTIONS + TOO_LARGE_IN_STEPS:
        bad += steps_with(fraction)
    for m in [(0, 1), (-1, 1), (-10, 1), (-1, 10), (-7, 3)]:
        bad += [step for step in steps_with(m) if step[0] not in ("add", "times")]
    return bad + [("times", (0, 1))]


BAD_STEPS = list_bad_steps()
GOOD_STEP = ("add", (1, 2))


def list_bad_chains():
    """Values that are no chains."""
    bad = list(OTHER_KINDS) + DEEP + DEEPEST + [
        0, 1, -1, 10 ** 40, ("down", (1, 1)), ("near", (1, 1), "up"), "near 1 up", [GOOD_STEP], [[GOOD_STEP]],
        {GOOD_STEP: 1}, {0: GOOD_STEP}, ((),), ((GOOD_STEP,),), (GOOD_STEP, (GOOD_STEP,)),
        (GOOD_STEP,) * 5, (GOOD_STEP,) * 6, (GOOD_STEP,) * 1000, [GOOD_STEP] * 4,
    ]
    bad += [tuple(SOME_STEPS[at:at + 5]) for at in range(0, 10)]
    bad += [(step,) for step in BAD_STEPS]
    for step in BAD_STEPS:
        bad += [(step, GOOD_STEP), (GOOD_STEP, step), (GOOD_STEP, GOOD_STEP, step, GOOD_STEP)]
        bad += [(GOOD_STEP, GOOD_STEP, GOOD_STEP, step)]
    return bad


BAD_CHAINS = list_bad_chains()

BAD_NUMBERS = NO_FRACTIONS + DEEPEST + [
    (10 ** 30 + 1, 1), (-10 ** 30 - 1, 1), (1, 10 ** 30 + 1), (-1, 10 ** 30 + 1), (10 ** 30 + 1, 10 ** 30),
    (10 ** 30, 10 ** 30 + 1), (-10 ** 30 - 1, 10 ** 30), (0, 10 ** 30), (10 ** 30, 10 ** 30), (10 ** 30, 2),
    (10 ** 31, 1), (1, 10 ** 31), (10 ** 5000, 1), (-10 ** 5000, 1), (1, 10 ** 5000), (1, -10 ** 30),
    ("down", (1, 1)), (("down", (1, 1)),), "1/2", [1, 2],
]


def beside_step_value(step, y, lean):
    """What the step makes of a number that lies beside y by lean times something endlessly small: a pair likewise."""
    amount = Fraction(*step[1])
    if step[0] == "add":
        return (y + amount, lean)
    if step[0] == "times":
        return (y * amount, lean * amount)
    parts = y / amount
    if step[0] == "up":
        k = -floor(-parts) if lean <= 0 or parts.denominator > 1 else int(parts) + 1
    elif step[0] == "near":
        k = floor(parts + Fraction(1, 2))
        if (parts - Fraction(1, 2)).denominator == 1:
            if lean < 0:
                k -= 1
            elif lean == 0:
                k = int(plain_step_value(step, y) / amount)
    else:
        k = floor(parts) if lean >= 0 or parts.denominator > 1 else int(parts) - 1
    return (y - k * amount, lean) if step[0] == "rest" else (k * amount, 0)


def plain_beside(chain, x, lean):
    """What the values come to at x from the side that lean tells, and the slope there if lean is 1."""
    told = (x, lean)
    for step in chain:
        told = beside_step_value(step, *told)
    return told


def plain_limits(chain, x):
    """What the values come to at the Fraction x from below, the value at x, and what they come to from above."""
    return tuple(plain_beside(chain, x, lean)[0] for lean in (-1, 0, 1))


def plain_places(chain, low, high):
    """The numbers from low on and below high at which the chain is not continuous, ascending."""
    places = [low]
    for many, step in enumerate(chain):
        if step[0] in ("add", "times"):
            continue
        m = Fraction(*step[1])
        middle = m / 2 if step[0] == "near" else 0
        found = set()
        for start, end in zip(places, places[1:] + [high]):
            y, slope = plain_beside(chain[:many], start, 1)
            if slope == 0:
                continue
            first, last = sorted([(y - middle) / m, (y + slope * (end - start) - middle) / m])
            for k in range(floor(first), floor(last) + 2):
                x = start + (k * m + middle - y) / slope
                if start < x < end:
                    found.add(x)
        places = sorted(found.union(places))
    return [x for x in places if len(set(plain_limits(chain, x))) > 1]


def told_at(form, x):
    """What the form tells of the Fraction x, as 2.4 words it: the value, and the a behind x."""
    if len(form) == 2:
        return (Fraction(*form[0]) * x + Fraction(*form[1]), Fraction(*form[1]))
    slope, period, rise = (Fraction(*part) for part in form[:3])
    turn = floor(x / period)
    inside = x - turn * period
    ahead = [row for row in form[3] if Fraction(*row[0]) <= inside]
    if not ahead:
        # The stretch behind the last place of the period ahead goes on.
        turn -= 1
        inside += period
    place, at, a = (Fraction(*part) for part in (ahead or form[3])[-1])
    line = a + turn * (rise - slope * period)
    return (at + turn * rise if place == inside else slope * x + line, line)


def plain_gaps(chain, other, high):
    """From 0 to high: (start, end, difference at start, difference behind it, difference ahead of the end)."""
    places = set(plain_places(chain, Fraction(0), high) + plain_places(other, Fraction(0), high))
    starts = sorted(places.union([Fraction(0)]))
    gaps = []
    for start, end in zip(starts, starts[1:] + [high]):
        one, two = [(plain_limits(each, start)[1], plain_beside(each, start, 1)) for each in (chain, other)]
        behind = one[1][0] - two[1][0]
        ahead = behind + (one[1][1] - two[1][1]) * (end - start)
        gaps.append((start, end, one[0] - two[0], behind, ahead))
    return gaps


def plain_share(chain, other, high):
    """The share of the numbers from 0 to high at which the values are unlike."""
    gaps = plain_gaps(chain, other, high)
    return sum([end - start for start, end, _, behind, ahead in gaps if (behind, ahead) != (0, 0)], Fraction(0)) / high


def plain_greatest(chain, other, high):
    """The greatest difference from 0 to high, and whether it is reached."""
    found = []
    for _, _, at, behind, ahead in plain_gaps(chain, other, high):
        found += [(abs(at), True), (abs(behind), behind == ahead), (abs(ahead), behind == ahead)]
    return max(found)


def plain_parting(chain, other, high, most):
    """The simplest fraction from 0 on and below high, with a bottom of at most most, at which the values are unlike."""
    for bottom in range(1, most + 1):
        top = 0
        while Fraction(top, bottom) < high:
            if gcd(top, bottom) == 1 and plain_value(chain, (top, bottom)) != plain_value(other, (top, bottom)):
                return (top, bottom)
            top += 1
    return None
