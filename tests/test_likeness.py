"""Whether, where and by how much two chains differ: same, parting, unlike_share and greatest_gap of section 6."""

import itertools
import random
import time
import unittest
from fractions import Fraction
from math import gcd, lcm

from helper import (
    ALL_STEPS, BAD_CHAINS, SOME_STEPS, TIES, pair, plain_gaps, plain_greatest, plain_parting, plain_share, plain_value,
)
from roundwaves.errors import InvalidChain, TooMany
from roundwaves.forms import count_jumps, form
from roundwaves.likeness import greatest_gap, parting, same, unlike_share
from roundwaves.texts import parse_chain

FUNCTIONS = (same, parting, unlike_share, greatest_gap)
CHAINS = [()] + [(step,) for step in SOME_STEPS] + list(itertools.product(SOME_STEPS, repeat=2))[::4]

# Chains in pairs: parting, unlike_share and greatest_gap.
BY_HAND = [
    # Alike.
    ("", "", None, (0, 1), ((0, 1), True)),
    ("", "add 0", None, (0, 1), ((0, 1), True)),
    ("near 1 up", "add 1/2; down 1", None, (0, 1), ((0, 1), True)),
    ("rest 1; down 1", "down 1; rest 1", None, (0, 1), ((0, 1), True)),
    ("down 1/4; down 1", "down 1", None, (0, 1), ((0, 1), True)),
    # Unlike at single numbers alone.
    ("near 1 up", "near 1 down", (1, 2), (0, 1), ((1, 1), True)),
    ("near 1 up", "near 1 even", (1, 2), (0, 1), ((1, 1), True)),
    ("near 1 down", "near 1 even", (3, 2), (0, 1), ((1, 1), True)),
    ("near 1 up", "near 1 odd", (3, 2), (0, 1), ((1, 1), True)),
    ("near 1 even", "near 1 odd", (1, 2), (0, 1), ((1, 1), True)),
    ("rest 1; up 1; add -1", "rest 1; down 1", (0, 1), (0, 1), ((1, 1), True)),
    ("near 2/3 up", "near 2/3 down", (1, 1), (0, 1), ((2, 3), True)),
    ("add 1/3; rest 1; up 1", "rest 1; down 1; add 1", (2, 3), (0, 1), ((1, 1), True)),
    # Unlike on stretches.
    ("near 1/10 up; near 1 up", "near 1 up", (5, 11), (1, 20), ((1, 1), True)),
    ("near 1 up", "near 1/10 up; near 1 up", (5, 11), (1, 20), ((1, 1), True)),
    ("down 1", "near 1 up", (1, 2), (1, 2), ((1, 1), True)),
    ("down 1", "down 2", (1, 1), (1, 2), ((1, 1), True)),
    ("down 1/2", "down 1", (1, 2), (1, 2), ((1, 2), True)),
    ("down 3/2", "down 1", (1, 1), (2, 3), ((1, 1), True)),
    ("rest 2", "rest 1", (1, 1), (1, 2), ((1, 1), True)),
    ("rest 2; down 1", "rest 1; down 1", (1, 1), (1, 2), ((1, 1), True)),
    # Unlike everywhere, but perhaps for single numbers.
    ("down 1", "up 1", (1, 2), (1, 1), ((1, 1), True)),
    ("", "add 1", (0, 1), (1, 1), ((1, 1), True)),
    ("", "add -1/3", (0, 1), (1, 1), ((1, 3), True)),
    ("near 1 up", "", (1, 2), (1, 1), ((1, 2), True)),
    ("near 1 odd", "", (1, 2), (1, 1), ((1, 2), True)),
    ("down 1", "", (1, 2), (1, 1), ((1, 1), False)),
    ("up 1", "", (1, 2), (1, 1), ((1, 1), False)),
    ("down 3/2", "", (1, 1), (1, 1), ((3, 2), False)),
    ("rest 1", "times -1; rest 1", (1, 3), (1, 1), ((1, 1), False)),
    ("rest 1", "rest 1; down 1", (1, 2), (1, 1), ((1, 1), False)),
    ("rest 1", "rest 1; times 3", (1, 2), (1, 1), ((2, 1), False)),
    ("rest 1; times 2", "rest 1; add 1/2", (0, 1), (1, 1), ((1, 2), True)),
    ("rest 1; times 2", "rest 1; add 1/3", (0, 1), (1, 1), ((2, 3), False)),
    ("rest 1", "rest 1; near 1 up", (1, 2), (1, 1), ((1, 2), True)),
    ("rest 1; times -1; down 1", "rest 1; down 1; add -1", (0, 1), (0, 1), ((1, 1), True)),
    # Not growing alike.
    ("", "times 2", (1, 1), (1, 1), None),
    ("times 2", "times -2", (1, 1), (1, 1), None),
    ("times 2; add 1", "times 1/2; add 1", (1, 1), (1, 1), None),
    ("add 1", "times 2", (0, 1), (1, 1), None),
    ("times 3; add -1", "", (0, 1), (1, 1), None),
    ("times 3; add -1/2", "times 2; add 1/2", (0, 1), (1, 1), None),
    ("down 1", "times 2", (1, 1), (1, 1), None),
    ("down 1", "rest 1; down 1", (1, 1), (1, 1), None),
    ("down 1; times 2", "down 1", (1, 1), (1, 1), None),
    ("down 2; times 2", "down 2", (2, 1), (1, 1), None),
    ("down 7; times -1", "down 7; times 3", (7, 1), (1, 1), None),
    ("rest 1", "", (1, 1), (1, 1), None),
    ("rest 3", "", (3, 1), (1, 1), None),
    ("rest 1/2", "", (1, 1), (1, 1), None),
    ("rest 3/4; down 10", "down 3/4", (1, 1), (1, 1), None),
]


def common_of(chain, other):
    one, two = [Fraction(*told[1]) if len(told) == 4 else Fraction(1) for told in (form(chain), form(other))]
    return Fraction(lcm(one.numerator, two.numerator), gcd(one.denominator, two.denominator))


def growth_of(chain):
    told = form(chain)
    return Fraction(*told[0]) if len(told) == 2 else Fraction(*told[2]) / Fraction(*told[1])


def many_places(chain, other, periods):
    """How many places both forms have from 0 on and below so many times common."""
    high = common_of(chain, other) * periods
    told = [each for each in (form(chain), form(other)) if len(each) == 4]
    return sum(len(each[3]) * (high / Fraction(*each[1])) for each in told)


def list_pairs():
    """Pairs of chains, many of which are alike or nearly so."""
    rng = random.Random(17)
    steps = [step for step in ALL_STEPS if abs(step[1][0]) <= 4 and step[1][1] <= 4]
    pairs = [(one, other) for one in CHAINS[:16] for other in CHAINS[:16]]
    for _ in range(700):
        chain = tuple(rng.choice(steps) for _ in range(rng.choice([1, 2, 3, 4])))
        at = rng.randrange(len(chain))
        others = [chain[:at] + chain[at + 1:], chain[:at] + (rng.choice(steps),) + chain[at + 1:]]
        others += [chain[:at] + chain[at + 1:at + 2] + chain[at:at + 1] + chain[at + 2:]]
        pairs.append((chain, rng.choice(others)))
    return [(one, other) for one, other in pairs if many_places(one, other, 2) <= 120]


PAIRS = list_pairs()


class ByHandTest(unittest.TestCase):
    def test_told_answers(self):
        for one, other, part, share, gap in BY_HAND:
            chains = (parse_chain(one), parse_chain(other))
            for chain, another in (chains, chains[::-1]):
                with self.subTest(one=one, other=other):
                    self.assertIs(same(chain, another), part is None)
                    self.assertEqual(repr(parting(chain, another)), repr(part))
                    self.assertEqual(repr(unlike_share(chain, another)), repr(share))
                    self.assertEqual(repr(greatest_gap(chain, another)), repr(gap))

    def test_rounding_to_a_kth_first(self):
        for k in range(2, 11):
            for tie in TIES:
                first = (("near", (1, k), "up"), ("near", (1, 1), tie))
                at_once = (("near", (1, 1), tie),)
                if k % 2 == 1 and tie == "up":
                    # A half lies in the middle between two k-ths, and is rounded up by both.
                    self.assertTrue(same(first, at_once))
                    self.assertIsNone(parting(first, at_once))
                    self.assertEqual(unlike_share(first, at_once), (0, 1))
                elif k % 2 == 0 and tie == "up":
                    self.assertFalse(same(first, at_once))
                    self.assertEqual(unlike_share(first, at_once), pair(Fraction(1, 2 * k)))
                    self.assertEqual(greatest_gap(first, at_once), ((1, 1), True))
                    self.assertEqual(parting(first, at_once), (k // 2, k + 1))
                elif k % 2 == 1:
                    # At halves alone.
                    self.assertEqual(unlike_share(first, at_once), (0, 1))
                    self.assertEqual(parting(first, at_once), {"down": (1, 2), "even": (1, 2), "odd": (3, 2)}[tie])

    def test_a_chain_and_itself(self):
        for chain in CHAINS:
            self.assertIs(same(chain, chain), True)
            self.assertIsNone(parting(chain, chain))
            self.assertEqual(unlike_share(chain, chain), (0, 1))
            self.assertEqual(greatest_gap(chain, chain), ((0, 1), True))


class SecondReadingTest(unittest.TestCase):
    def test_same(self):
        for chain, other in PAIRS:
            gaps = plain_gaps(chain, other, 2 * common_of(chain, other))
            with self.subTest(chain=chain, other=other):
                self.assertIs(same(chain, other), not any(any(gap[2:]) for gap in gaps))
                self.assertIs(same(other, chain), same(chain, other))

    def test_same_means_equal_forms(self):
        for chain, other in PAIRS:
            self.assertIs(same(chain, other), form(chain) == form(other))

    def test_parting_by_bottom_and_top(self):
        found = 0
        for chain, other in PAIRS:
            told = parting(chain, other)
            high = 2 * common_of(chain, other)
            with self.subTest(chain=chain, other=other):
                self.assertEqual(told is None, same(chain, other))
                if told is None:
                    self.assertIsNone(plain_parting(chain, other, high, 3))
                else:
                    found += 1
                    self.assertNotEqual(plain_value(chain, told), plain_value(other, told))
                    self.assertTrue(0 <= Fraction(*told) < high)
                    if told[1] <= 40:
                        self.assertEqual(plain_parting(chain, other, high, told[1]), told)
                    else:
                        self.assertIsNone(plain_parting(chain, other, high, 8))
        self.assertGreater(found, 200)

    def test_parting_with_larger_bottoms(self):
        for one, other, told in [
            ("near 1/10 up; near 1 up", "near 1 up", (5, 11)),
            ("down 1/10; near 9/10 up", "near 9/10 up", (11, 8)),
            ("add 1/10; down 1", "add 1/9; down 1", (8, 9)),
            ("add 1/10; add 1/9; down 1/10", "add 1/10; add 1/10; down 1/10", (1, 11)),
            ("add -1/10; up 10", "add -1/9; up 10", (1, 9)),
            ("add 1/10; times 1/10; times 1/10; up 10", "add 1/9; times 1/10; times 1/10; up 10", (9999, 10)),
        ]:
            chain, another = parse_chain(one), parse_chain(other)
            with self.subTest(one=one, other=other):
                self.assertEqual(parting(chain, another), told)
                if told[0] < 100:
                    high = 2 * common_of(chain, another)
                    self.assertEqual(plain_parting(chain, another, high, told[1]), told)

    def test_share_and_gap(self):
        alike = 0
        for chain, other in PAIRS:
            with self.subTest(chain=chain, other=other):
                if growth_of(chain) != growth_of(other):
                    self.assertEqual(unlike_share(chain, other), (1, 1))
                    self.assertIsNone(greatest_gap(chain, other))
                    continue
                alike += 1
                common = common_of(chain, other)
                self.assertEqual(unlike_share(chain, other), pair(plain_share(chain, other, common)))
                greatest, is_reached = plain_greatest(chain, other, common)
                self.assertEqual(repr(greatest_gap(chain, other)), repr((pair(greatest), is_reached)))
        self.assertGreater(alike, 200)

    def test_gap_is_exceeded_nowhere(self):
        for chain, other in PAIRS[::3]:
            told = greatest_gap(chain, other)
            if told is not None:
                for top in range(-50, 51, 3):
                    values = [Fraction(*plain_value(each, pair(Fraction(top, 12)))) for each in (chain, other)]
                    self.assertLessEqual(abs(values[0] - values[1]), Fraction(*told[0]))


class TooManyTest(unittest.TestCase):
    # 1000 places from 0 on and below 10, and one more with the other one.
    THOUSAND = "rest 10; times 10; down 1/10"
    MORE = "rest 10; times 10; near 1/10 up"

    def check(self, function, one, other, is_too_many):
        for chain, another in [(one, other), (other, one)]:
            chains = (parse_chain(chain), parse_chain(another))
            with self.subTest(function=function.__name__, chain=chain, another=another):
                if is_too_many:
                    with self.assertRaises(TooMany) as caught:
                        function(*chains)
                    self.assertIs(type(caught.exception), TooMany)
                else:
                    function(*chains)

    def test_of_share_and_gap(self):
        self.assertEqual(count_jumps(parse_chain(self.THOUSAND)), 1000)
        self.assertEqual(count_jumps(parse_chain(self.MORE)), 1001)
        for function in (unlike_share, greatest_gap):
            self.check(function, self.THOUSAND, self.THOUSAND, False)
            self.check(function, self.THOUSAND, "rest 10; times 10; up 1/10", False)
            self.check(function, self.THOUSAND, self.MORE, True)
            self.check(function, self.THOUSAND, "down 10", False)
            # The common period is 10 with the first one; with the others it is 20 and 70.
            self.check(function, self.THOUSAND, "rest 2", False)
            self.check(function, self.THOUSAND, "rest 4", True)
            self.check(function, self.THOUSAND, "down 7", True)
            self.check(function, self.MORE, self.MORE, True)

    def test_of_parting(self):
        # 2000 below 20 are not too many, 2002 are; so are those of equal chains.
        self.check(parting, self.THOUSAND, "", False)
        self.check(parting, self.THOUSAND, "times 2", False)
        self.check(parting, self.THOUSAND, "down 10", True)
        self.check(parting, self.THOUSAND, self.THOUSAND, True)
        self.check(parting, self.MORE, "", True)
        self.check(unlike_share, self.MORE, "", False)
        self.check(greatest_gap, self.MORE, "", False)
        self.check(parting, "rest 10; times 5; down 1/10", "rest 10; times 5; up 1/10", False)
        self.check(parting, "rest 10; times 5; down 1/10", "rest 10; times 5; near 1/10 up", True)

    def test_periods_of_one_for_lines(self):
        # 1000 places below 1, by the form without places; no period of its own is that long.
        for text, many in [("times 10; times 10; down 1/10", 1000), ("times 10; times 10; near 1/10 even", 1000)]:
            chain = parse_chain(text)
            self.assertEqual(many_places(chain, (), 1), many)
            self.check(parting, text, "", False)
            self.check(unlike_share, text, "", False)
        self.check(parting, "times 10; times 10; times 2; down 1/10", "", True)
        self.check(unlike_share, "times 10; times 10; times 2; down 1/10", "", False)
        self.check(unlike_share, "times 10; times 10; times 3; down 1/10", "", True)
        self.check(greatest_gap, "times 10; times 10; times 3; down 1/10", "", True)

    def test_chains_that_grow_unlike_or_are_equal(self):
        text = "times 10; times 10; times 3; down 1/10"
        for function in (unlike_share, greatest_gap, parting):
            self.check(function, text, "add 1", True)
            self.check(function, text, text, False)
        # Both have 1200 places below 4.
        for function in (unlike_share, greatest_gap):
            self.check(function, "rest 4; times 10; times 3; down 1/10", "rest 4; times 10; times 3; up 1/10", True)

    def test_same_looks_at_no_more_than_the_forms(self):
        self.check(same, self.THOUSAND, "down 7", False)
        self.check(same, self.MORE, self.MORE, False)

    def test_small_steps_raise_nothing(self):
        small = {(top, bottom) for top in (1, 2, 4, -1, -2, -4) for bottom in (1, 2, 4)}
        steps = [step for step in ALL_STEPS if step[1] in small]
        rng = random.Random(23)
        for _ in range(300):
            chain, other = [tuple(rng.choice(steps) for _ in range(4)) for _ in range(2)]
            same(chain, other)
            if many_places(chain, other, 2) <= 2000:
                for function in FUNCTIONS:
                    function(chain, other)

    def test_answers_come_soon(self):
        start = time.perf_counter()
        parting(parse_chain("rest 10; times 5; down 1/10"), parse_chain("rest 10; times 5; up 1/10"))
        unlike_share(parse_chain(self.THOUSAND), parse_chain("rest 10; times 10; up 1/10"))
        self.assertLess(time.perf_counter() - start, 5)


class ArgumentsTest(unittest.TestCase):
    def check_bad(self, function, chain, other):
        with self.assertRaises(InvalidChain) as caught:
            function(chain, other)
        self.assertIs(type(caught.exception), InvalidChain)

    def test_what_is_no_chain(self):
        good = parse_chain("near 1 up")
        for function in FUNCTIONS:
            for at, bad in enumerate(BAD_CHAINS):
                with self.subTest(function=function.__name__, at=at):
                    self.check_bad(function, bad, good)
                    self.check_bad(function, good, bad)
                    self.check_bad(function, bad, bad)

    def test_wrong_chains_come_ahead_of_too_many(self):
        for function in FUNCTIONS:
            self.check_bad(function, parse_chain(TooManyTest.THOUSAND), None)
            self.check_bad(function, (("down", (0, 1)),), parse_chain(TooManyTest.THOUSAND))

    def test_equal_arguments_give_equal_results(self):
        for function in FUNCTIONS:
            first = [function(chain, other) for chain, other in PAIRS[::9]]
            again = [function(chain, other) for chain, other in reversed(PAIRS[::9])]
            self.assertEqual(repr(first), repr(again[::-1]))


if __name__ == "__main__":
    unittest.main()
