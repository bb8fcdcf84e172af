"""The numbers at which a chain has a value: 2.6, section 7, and guarantee (c) of section 1."""

import itertools
import random
import unittest
from fractions import Fraction

from helper import (
    ALL_STEPS, BAD_CHAINS, BAD_NUMBERS, GOOD_STEP, SOME_STEPS, pair, plain_limits, plain_places, plain_value,
)
from roundwaves.backs import is_given, sources
from roundwaves.errors import InvalidChain, InvalidNumber
from roundwaves.forms import form
from roundwaves.texts import parse_chain

BIG = 10 ** 30
ALL = "all"


def stretches_of(told):
    """The stretches that are told as: [0 1/2) (1/2 1) [3 3]."""
    if told == ALL:
        return ((None, None, False, False),)
    found = []
    for low, high in zip(told.split()[::2], told.split()[1::2]):
        ends = (pair(Fraction(low[1:])), pair(Fraction(high[:-1])))
        found.append(ends + (low[0] == "[", high[-1] == "]"))
    return tuple(found)


def is_in(number, stretch):
    low, high, low_in, high_in = stretch
    if low is None:
        return True
    low, high = Fraction(*low), Fraction(*high)
    return low < number < high or (number == low and low_in) or (number == high and high_in)


class ByHandTest(unittest.TestCase):
    def check_table(self, rows):
        for text, number, told in rows:
            with self.subTest(text=text, number=number):
                chain = parse_chain(text)
                value = pair(Fraction(number))
                self.assertEqual(repr(sources(chain, value)), repr(stretches_of(told)))
                self.assertIs(is_given(chain, value), told != "")

    def test_examples_of_the_document(self):
        self.assertEqual(sources((("near", (1, 1), "up"),), (2, 1)), (((3, 2), (5, 2), True, False),))
        chain = (("near", (1, 10), "up"), ("near", (1, 1), "up"))
        self.assertEqual(sources(chain, (2, 1)), (((29, 20), (49, 20), True, False),))

    def test_lone_roundings(self):
        self.check_table([
            ("down 1", "0", "[0 1)"), ("down 1", "-3", "[-3 -2)"), ("down 1", "1/2", ""),
            ("up 1", "0", "(-1 0]"), ("up 1", "5", "(4 5]"), ("up 7/3", "-7/3", "(-14/3 -7/3]"), ("up 7/3", "2", ""),
            ("near 1 up", "0", "[-1/2 1/2)"), ("near 1 down", "2", "(3/2 5/2]"),
            ("near 1 even", "2", "[3/2 5/2]"), ("near 1 even", "1", "(1/2 3/2)"), ("near 1 even", "-1", "(-3/2 -1/2)"),
            ("near 1 odd", "2", "(3/2 5/2)"), ("near 1 odd", "1", "[1/2 3/2]"), ("near 1 odd", "1/2", ""),
            ("near 3/10 up", "3/10", "[3/20 9/20)"), ("near 10 even", "-20", "[-25 -15]"),
        ])

    def test_without_places(self):
        self.check_table([
            ("", "7/3", "[7/3 7/3]"), ("", "0", "[0 0]"), ("add 1/2", "0", "[-1/2 -1/2]"),
            ("times 2; add 1", "4", "[3/2 3/2]"), ("times -1/3", "1", "[-3 -3]"), ("times 10; times 1/10", "5", "[5 5]"),
            ("rest 1; down 1", "0", ALL), ("rest 1; down 1", "1", ""), ("down 1; rest 1; add 5/2", "5/2", ALL),
            ("down 1; rest 1; add 5/2", "0", ""), ("rest 1; down 1; times -2", "0", ALL),
        ])

    def test_behind_others(self):
        self.check_table([
            ("times -1; down 1", "2", "(-3 -2]"), ("times -1; down 1", "-2", "(1 2]"), ("times -1; down 1", "3/2", ""),
            ("times 2; down 1", "3", "[3/2 2)"), ("down 1; times -3", "-6", "[2 3)"), ("down 1; times -3", "2", ""),
            ("add 1/2; down 1; add -1/2", "1/2", "[1/2 3/2)"), ("down 1; down 2", "2", "[2 4)"),
            ("near 1/10 up; near 1 up", "-1", "[-31/20 -11/20)"), ("down 1; near 2 even", "4", "[3 6)"),
            ("down 1; near 2 even", "2", "[2 3)"), ("times -1; near 1 even", "2", "[-5/2 -3/2]"),
            ("times -1; near 1 even; times 1/2; near 1 down", "1", "(-7/2 -3/2]"),
        ])

    def test_from_0_on_and_below_the_period_alone(self):
        self.check_table([
            ("rest 1", "1/2", "[1/2 1/2]"), ("rest 1", "0", "[0 0]"), ("rest 1", "1", ""), ("rest 1", "-1/2", ""),
            ("rest 9/4", "2", "[2 2]"), ("add 1/4; rest 1", "0", "[3/4 3/4]"), ("add 1/4; rest 1", "1/4", "[0 0]"),
            ("rest 1; down 1/2", "0", "[0 1/2)"), ("rest 1; down 1/2", "1/2", "[1/2 1)"),
            ("rest 1; near 1 up", "0", "[0 1/2)"), ("rest 1; near 1 up", "1", "[1/2 1)"),
            ("rest 1; near 1 down", "0", "[0 1/2]"), ("rest 1; near 1 down", "1", "(1/2 1)"),
            ("add 1/2; rest 1; near 1 up", "1", "[0 1/2)"), ("add 1/2; rest 1; near 1 up", "0", "[1/2 1)"),
            ("rest 1; times -1; down 1", "0", "[0 0]"), ("rest 1; times -1; down 1", "-1", "(0 1)"),
            ("near 1 even; rest 2", "0", "[0 1/2] [3/2 2)"), ("near 1 even; rest 2", "1", "(1/2 3/2)"),
        ])

    def test_several_stretches(self):
        self.check_table([
            ("add 1/2; rest 1; up 1", "1", "[0 1/2) (1/2 1)"), ("add 1/2; rest 1; up 1", "0", "[1/2 1/2]"),
            ("rest 3; near 1 even; rest 2", "0", "[0 1/2] [3/2 5/2]"),
            ("rest 3; near 1 even; rest 2", "1", "(1/2 3/2) (5/2 3)"),
            ("rest 3/2; rest 1", "1/4", "[1/4 1/4] [5/4 5/4]"), ("rest 3/2; rest 1", "3/4", "[3/4 3/4]"),
            ("rest 3/2; rest 1", "0", "[0 0] [1 1]"), ("rest 3/2; rest 1", "1/2", "[1/2 1/2]"),
            ("times -1; rest 3/2; rest 1", "1/4", "[1/4 1/4] [5/4 5/4]"),
            ("times -1; rest 3/2; rest 1", "0", "[0 0] [1/2 1/2]"),
            ("add 3/2; rest 5/2; add 1/2; rest 1", "1/2", "[1/2 1/2] [1 1] [2 2]"),
            ("rest 3; down 1; times -1; rest 2", "0", "[0 1) [2 3)"),
            ("rest 3; times -1; up 1; rest 2", "1", "[1 2)"),
        ])

    def test_large_numbers(self):
        for number in (BIG, -BIG, BIG - 1):
            self.assertEqual(sources((("down", (1, 1)),), (number, 1)), (((number, 1), (number + 1, 1), True, False),))
            self.assertEqual(sources((), (number, 1)), (((number, 1), (number, 1), True, True),))
            self.assertEqual(sources((("rest", (1, 1)),), (number, 1)), ())
        self.assertEqual(sources((("rest", (1, 1)),), (1, BIG)), (((1, BIG), (1, BIG), True, True),))
        self.assertEqual(sources((("near", (1, 10), "up"),), (1, BIG)), ())
        self.assertEqual(
            sources((("times", (-1, 10)), ("up", (1, 1))), (BIG, 1)),
            (((-BIG * 10, 1), (-BIG * 10 + 10, 1), True, False),),
        )


class SecondReadingTest(unittest.TestCase):
    def window_of(self, chain):
        """From where to where sources are looked for, and whether no others are told."""
        told = form(chain)
        if len(told) == 2:
            return (Fraction(-4), Fraction(4), False)
        period = Fraction(*told[1])
        if told[2] == (0, 1):
            return (Fraction(0), period, True)
        return (-2 * period, 3 * period, False)

    def check(self, chain, number, window, numbers):
        low, high, is_all = window
        told = sources(chain, pair(number))
        with self.subTest(chain=chain, number=number):
            self.check_kind(told)
            if is_all:
                for start, end, _, end_in in told:
                    self.assertTrue(low <= Fraction(*start) <= Fraction(*end) <= high)
                    self.assertFalse(end_in and Fraction(*end) == high)
            for x in numbers:
                self.check_number(chain, number, told, x)
            self.check_ends(chain, number, told, window)
            self.assertIs(is_given(chain, pair(number)), told != ())

    def check_kind(self, told):
        for low, high, low_in, high_in in told:
            if low is not None:
                self.assertTrue(Fraction(*low) < Fraction(*high) or (low == high and low_in and high_in))
        for one, other in zip(told, told[1:]):
            self.assertLessEqual(Fraction(*one[1]), Fraction(*other[0]))
            # As few as possible.
            self.assertFalse(one[1] == other[0] and (one[3] or other[2]))

    def check_ends(self, chain, number, told, window):
        small = Fraction(1, 10 ** 9)
        for low, high, _, _ in told:
            if low is not None:
                ends = (Fraction(*low), Fraction(*high))
                for x in (ends[0] - small, ends[0], ends[0] + small, sum(ends) / 2, ends[1] - small, ends[1]):
                    if not window[2] or window[0] <= x < window[1]:
                        self.check_number(chain, number, told, x)

    def check_number(self, chain, number, told, x):
        is_source = Fraction(*plain_value(chain, pair(x))) == number
        self.assertIs(any(is_in(x, stretch) for stretch in told), is_source, x)

    def check_values(self, chain, most):
        window = self.window_of(chain)
        places = plain_places(chain, *window[:2])
        starts = sorted(set(places + [window[0]]))
        numbers = list(starts)
        for start, end in zip(starts, starts[1:] + [window[1]]):
            numbers += [start + (end - start) / 3, start + (end - start) * 7 / 11]
        values = {Fraction(0), Fraction(1, 7)}
        for x in (places + [Fraction(0), window[1] / 3])[-most:]:
            values.update(plain_limits(chain, x))
        for value in sorted(values)[:most] + sorted(values)[-2:]:
            self.check(chain, value, window, numbers)

    def test_lone_steps(self):
        for step in ALL_STEPS[::3]:
            self.check_values((step,), 2)

    def test_pairs(self):
        for chain in itertools.product(SOME_STEPS, repeat=2):
            if len(form(chain)) == 2 or len(form(chain)[3]) < 20:
                self.check_values(chain, 3)

    def test_longer_chains(self):
        rng = random.Random(41)
        steps = [step for step in ALL_STEPS if abs(step[1][0]) <= 3 and step[1][1] <= 3]
        for _ in range(160):
            chain = tuple(rng.choice(steps) for _ in range(rng.choice([3, 4])))
            if len(form(chain)) == 2 or len(form(chain)[3]) < 20:
                self.check_values(chain, 4)


class ArgumentsTest(unittest.TestCase):
    def check_raises(self, error, function, *arguments):
        with self.assertRaises(error) as caught:
            function(*arguments)
        self.assertIs(type(caught.exception), error)

    def test_what_is_no_chain(self):
        for function in (sources, is_given):
            for at, bad in enumerate(BAD_CHAINS):
                with self.subTest(function=function.__name__, at=at):
                    self.check_raises(InvalidChain, function, bad, (1, 2))

    def test_what_is_no_number(self):
        for function in (sources, is_given):
            for at, bad in enumerate(BAD_NUMBERS):
                for chain in [(), (GOOD_STEP,), (("rest", (1, 1)), ("down", (1, 1)))]:
                    with self.subTest(function=function.__name__, at=at, chain=chain):
                        self.check_raises(InvalidNumber, function, chain, bad)

    def test_the_chain_is_checked_first(self):
        for function in (sources, is_given):
            for at, bad in enumerate(BAD_CHAINS):
                self.check_raises(InvalidChain, function, bad, BAD_NUMBERS[at % len(BAD_NUMBERS)])
            for number in BAD_NUMBERS:
                self.check_raises(InvalidChain, function, (GOOD_STEP,) * 5, number)

    def test_booleans_after_equal_integers(self):
        self.assertTrue(is_given((), (1, 1)))
        self.check_raises(InvalidNumber, is_given, (), (True, 1))
        self.check_raises(InvalidNumber, sources, (), (1, 1.0))


if __name__ == "__main__":
    unittest.main()
