"""The values of steps and chains: 2.2, 2.3, and value."""

import copy
import itertools
import unittest
from fractions import Fraction

from helper import ALL_STEPS, BAD_CHAINS, BAD_NUMBERS, GOOD_STEP, SOME_STEPS, TIES, pair, plain_value
from roundwaves.chains import value
from roundwaves.errors import InvalidChain, InvalidNumber

BIG = 10 ** 30
TENTHS_FIRST = (("near", (1, 10), "up"), ("near", (1, 1), "up"))


class Case(unittest.TestCase):
    def check(self, chain, number, wanted):
        # repr also tells 1 from True and a tuple from a list.
        with self.subTest(chain=chain, number=number):
            self.assertEqual(repr(value(chain, number)), repr(wanted))

    def check_table(self, step, rows):
        for number, wanted in rows:
            self.check((step,), number, wanted)


class StepsTest(Case):
    def test_down(self):
        self.check_table(("down", (1, 1)), [
            ((0, 1), (0, 1)), ((1, 3), (0, 1)), ((1, 1), (1, 1)), ((7, 2), (3, 1)),
            ((-1, 3), (-1, 1)), ((-1, 1), (-1, 1)), ((-7, 2), (-4, 1)),
        ])
        self.check_table(("down", (3, 10)), [
            ((0, 1), (0, 1)), ((1, 1), (9, 10)), ((3, 10), (3, 10)), ((29, 100), (0, 1)), ((6, 5), (6, 5)),
            ((-1, 10), (-3, 10)), ((-3, 10), (-3, 10)), ((-1, 1), (-6, 5)),
        ])
        self.check_table(("down", (7, 3)), [
            ((0, 1), (0, 1)), ((2, 1), (0, 1)), ((7, 3), (7, 3)), ((5, 1), (14, 3)), ((7, 1), (7, 1)),
            ((-1, 10), (-7, 3)), ((-7, 3), (-7, 3)), ((-5, 2), (-14, 3)),
        ])

    def test_up(self):
        self.check_table(("up", (1, 1)), [
            ((0, 1), (0, 1)), ((1, 3), (1, 1)), ((1, 1), (1, 1)), ((7, 2), (4, 1)),
            ((-1, 3), (0, 1)), ((-1, 1), (-1, 1)), ((-7, 2), (-3, 1)),
        ])
        self.check_table(("up", (3, 10)), [
            ((0, 1), (0, 1)), ((1, 1), (6, 5)), ((3, 10), (3, 10)), ((31, 100), (3, 5)),
            ((-1, 10), (0, 1)), ((-3, 10), (-3, 10)), ((-1, 1), (-9, 10)),
        ])
        self.check_table(("up", (7, 3)), [
            ((0, 1), (0, 1)), ((2, 1), (7, 3)), ((7, 3), (7, 3)), ((5, 1), (7, 1)),
            ((-1, 10), (0, 1)), ((-7, 3), (-7, 3)), ((-5, 1), (-14, 3)),
        ])

    def test_near_away_from_the_halves(self):
        for tie in TIES:
            self.check_table(("near", (1, 1), tie), [
                ((0, 1), (0, 1)), ((49, 100), (0, 1)), ((51, 100), (1, 1)), ((1, 1), (1, 1)), ((-1, 1), (-1, 1)),
                ((-49, 100), (0, 1)), ((-51, 100), (-1, 1)), ((149, 100), (1, 1)), ((151, 100), (2, 1)),
                ((-149, 100), (-1, 1)), ((-151, 100), (-2, 1)),
            ])
            self.check_table(("near", (3, 2), tie), [
                ((0, 1), (0, 1)), ((7, 10), (0, 1)), ((4, 5), (3, 2)), ((3, 2), (3, 2)), ((3, 1), (3, 1)),
                ((-7, 10), (0, 1)), ((-4, 5), (-3, 2)), ((-3, 2), (-3, 2)), ((11, 5), (3, 2)), ((23, 10), (3, 1)),
            ])

    def test_near_at_the_halves(self):
        halves = [-5, -3, -1, 1, 3, 5]
        wanted = {
            "up": [-2, -1, 0, 1, 2, 3],
            "down": [-3, -2, -1, 0, 1, 2],
            "even": [-2, -2, 0, 0, 2, 2],
            "odd": [-3, -1, -1, 1, 1, 3],
        }
        for m in [Fraction(1), Fraction(3, 2), Fraction(1, 10), Fraction(10), Fraction(10, 7), Fraction(3, 10)]:
            for tie, ks in wanted.items():
                for half, k in zip(halves, ks):
                    self.check((("near", pair(m), tie),), pair(half * m / 2), pair(k * m))

    def test_near_beside_the_halves(self):
        small = Fraction(1, 10 ** 28)
        for tie in TIES:
            for m in [Fraction(1), Fraction(3, 2), Fraction(1, 10), Fraction(10)]:
                for k in range(-3, 4):
                    half = (k + Fraction(1, 2)) * m
                    self.check((("near", pair(m), tie),), pair(half - small), pair(k * m))
                    self.check((("near", pair(m), tie),), pair(half + small), pair((k + 1) * m))

    def test_add(self):
        self.check_table(("add", (1, 2)), [
            ((0, 1), (1, 2)), ((1, 2), (1, 1)), ((-1, 2), (0, 1)), ((-3, 1), (-5, 2)), ((1, 3), (5, 6)),
        ])
        self.check_table(("add", (-10, 3)), [((0, 1), (-10, 3)), ((10, 3), (0, 1)), ((1, 3), (-3, 1))])
        self.check_table(("add", (0, 1)), [((0, 1), (0, 1)), ((5, 7), (5, 7)), ((-5, 7), (-5, 7))])

    def test_times(self):
        self.check_table(("times", (2, 1)), [((0, 1), (0, 1)), ((1, 2), (1, 1)), ((-3, 4), (-3, 2))])
        self.check_table(("times", (-3, 10)), [
            ((0, 1), (0, 1)), ((1, 1), (-3, 10)), ((-1, 1), (3, 10)), ((10, 3), (-1, 1)), ((-5, 9), (1, 6)),
        ])
        self.check_table(("times", (-1, 1)), [((0, 1), (0, 1)), ((5, 2), (-5, 2)), ((-5, 2), (5, 2))])

    def test_rest(self):
        self.check_table(("rest", (1, 1)), [
            ((0, 1), (0, 1)), ((1, 3), (1, 3)), ((1, 1), (0, 1)), ((7, 2), (1, 2)),
            ((-1, 3), (2, 3)), ((-1, 1), (0, 1)), ((-7, 4), (1, 4)),
        ])
        self.check_table(("rest", (9, 4)), [
            ((0, 1), (0, 1)), ((2, 1), (2, 1)), ((9, 4), (0, 1)), ((5, 1), (1, 2)),
            ((-1, 4), (2, 1)), ((-9, 4), (0, 1)), ((-5, 1), (7, 4)),
        ])

    def test_every_step_at_multiples_halves_and_between(self):
        small = Fraction(1, 10 ** 27)
        for step in ALL_STEPS:
            unit = abs(Fraction(*step[1])) or Fraction(1)
            for quarters in range(-9, 10):
                for beside in (-small, 0, small):
                    number = pair(quarters * unit / 4 + beside)
                    self.check((step,), number, plain_value((step,), number))


class ChainsTest(Case):
    def test_examples_of_the_document(self):
        self.check(TENTHS_FIRST, (9, 20), (1, 1))
        self.check((("near", (1, 1), "up"),), (9, 20), (0, 1))
        # (5, 11) parts the two; 29/20 and 49/20 bound what comes to 2.
        self.check(TENTHS_FIRST, (5, 11), (1, 1))
        self.check((("near", (1, 1), "up"),), (5, 11), (0, 1))
        self.check(TENTHS_FIRST, (29, 20), (2, 1))
        self.check(TENTHS_FIRST, (49, 20), (3, 1))

    def test_no_steps_leave_the_number(self):
        for number in [(0, 1), (1, 2), (-7, 3), (BIG, 1), (-BIG, 1), (1, BIG), (-BIG, BIG - 1)]:
            self.check((), number, number)

    def test_steps_go_one_behind_the_other(self):
        self.check((("add", (1, 2)), ("times", (2, 1))), (1, 1), (3, 1))
        self.check((("times", (2, 1)), ("add", (1, 2))), (1, 1), (5, 2))
        self.check((("down", (1, 1)), ("add", (1, 2)), ("up", (1, 1))), (7, 4), (2, 1))
        self.check((("add", (1, 2)), ("down", (1, 1)), ("up", (1, 1))), (7, 4), (2, 1))
        self.check((("add", (1, 2)), ("down", (1, 1)), ("times", (-1, 1)), ("rest", (3, 1))), (7, 4), (1, 1))
        self.check((("times", (-1, 1)), ("down", (3, 2)), ("times", (-1, 1))), (1, 1), (3, 2))

    def test_chains_of_two_and_three_steps(self):
        numbers = [(0, 1), (1, 2), (-1, 2), (5, 4), (-15, 7), (7, 3), (-10, 1), (29, 20)]
        for chain in itertools.product(SOME_STEPS, repeat=2):
            for number in numbers:
                self.check(chain, number, plain_value(chain, number))
        for chain in itertools.product(SOME_STEPS, repeat=3):
            for number in numbers[2:4]:
                self.check(chain, number, plain_value(chain, number))

    def test_chains_of_four_steps(self):
        chains = itertools.islice(itertools.product(SOME_STEPS, repeat=4), 0, None, 11)
        for at, chain in enumerate(chains):
            number = pair(Fraction(at % 97 - 48, at % 7 + 4))
            self.check(chain, number, plain_value(chain, number))


class LargeNumbersTest(Case):
    def test_told_values(self):
        self.check((("add", (1, 10)),), (1, BIG), (10 ** 29 + 1, BIG))
        self.check((("add", (10, 1)),), (BIG, 1), (BIG + 10, 1))
        self.check((("times", (10, 1)),), (-BIG, 1), (-BIG * 10, 1))
        self.check((("times", (1, 10)),), (1, BIG), (1, BIG * 10))
        self.check((("down", (1, 1)),), (1, BIG), (0, 1))
        self.check((("down", (1, 1)),), (-1, BIG), (-1, 1))
        self.check((("up", (1, 1)),), (1, BIG), (1, 1))
        self.check((("up", (1, 1)),), (-1, BIG), (0, 1))
        self.check((("down", (7, 1)),), (BIG, 1), (BIG - BIG % 7, 1))
        self.check((("rest", (7, 1)),), (BIG, 1), (BIG % 7, 1))
        self.check((("rest", (7, 1)),), (-BIG, 1), (-BIG % 7, 1))
        self.check((("rest", (1, 1)),), (-1, BIG), (BIG - 1, BIG))

    def test_ties_of_large_numbers(self):
        for number, rows in [
            ((BIG - 1, 2), {"up": BIG // 2, "down": BIG // 2 - 1, "even": BIG // 2, "odd": BIG // 2 - 1}),
            ((BIG - 3, 2), {"up": BIG // 2 - 1, "down": BIG // 2 - 2, "even": BIG // 2 - 2, "odd": BIG // 2 - 1}),
            ((1 - BIG, 2), {"up": 1 - BIG // 2, "down": -BIG // 2, "even": -BIG // 2, "odd": 1 - BIG // 2}),
        ]:
            for tie, wanted in rows.items():
                self.check((("near", (1, 1), tie),), number, (wanted, 1))
        for number, rows in [
            ((BIG - 5, 1), {"up": BIG, "down": BIG - 10, "even": BIG, "odd": BIG - 10}),
            ((BIG - 15, 1), {"up": BIG - 10, "down": BIG - 20, "even": BIG - 20, "odd": BIG - 10}),
            ((5 - BIG, 1), {"up": 10 - BIG, "down": -BIG, "even": -BIG, "odd": 10 - BIG}),
        ]:
            for tie, wanted in rows.items():
                self.check((("near", (10, 1), tie),), number, (wanted, 1))

    def test_numbers_at_the_bounds(self):
        numbers = [
            pair(Fraction(top, bottom))
            for top in (-BIG, -BIG + 1, -BIG // 2 - 1, -1, 0, 1, BIG // 2 + 1, BIG - 1, BIG)
            for bottom in (1, 2, 3, 7, BIG // 2, BIG - 1, BIG)
        ]
        ties = [("near", m, tie) for m in [(1, 1), (3, 2), (7, 10)] for tie in TIES]
        for number in numbers:
            for step in SOME_STEPS + ties:
                self.check((step,), number, plain_value((step,), number))
        for chain in itertools.islice(itertools.product(SOME_STEPS, repeat=4), 0, None, 1009):
            for number in numbers:
                self.check(chain, number, plain_value(chain, number))


class WrongArgumentsTest(unittest.TestCase):
    def assert_raises(self, error, chain, number):
        with self.assertRaises(error) as caught:
            value(chain, number)
        self.assertIs(type(caught.exception), error)

    def test_no_chains(self):
        for at, chain in enumerate(BAD_CHAINS):
            with self.subTest(at=at):
                self.assert_raises(InvalidChain, chain, (1, 2))

    def test_no_numbers(self):
        for at, number in enumerate(BAD_NUMBERS):
            for chain in [(), (GOOD_STEP,), TENTHS_FIRST]:
                with self.subTest(at=at, chain=chain):
                    self.assert_raises(InvalidNumber, chain, number)

    def test_the_chain_is_checked_first(self):
        for at, chain in enumerate(BAD_CHAINS[:200]):
            for number in [None, True, 1, 0.5, "1", (2, 4), (1, 0), [1, 2], (10 ** 30 + 1, 1), BAD_NUMBERS[at % 60]]:
                with self.subTest(at=at):
                    self.assert_raises(InvalidChain, chain, number)
        for at, number in enumerate(BAD_NUMBERS):
            with self.subTest(at=at):
                self.assert_raises(InvalidChain, (GOOD_STEP,) * 5, number)

    def test_bounds_of_numbers(self):
        for number in [(BIG, 1), (-BIG, 1), (1, BIG), (-1, BIG), (BIG - 1, BIG), (-BIG + 1, BIG), (BIG, BIG - 1)]:
            self.assertEqual(value((), number), number)
        for number in [
            (BIG + 1, 1), (-BIG - 1, 1), (1, BIG + 1), (-1, BIG + 1), (BIG, BIG + 1), (BIG + 1, BIG), (-BIG - 1, BIG),
        ]:
            with self.subTest(number=number):
                self.assert_raises(InvalidNumber, (), number)

    def test_booleans_after_equal_integers(self):
        self.assertEqual(value((("add", (1, 1)),), (1, 1)), (2, 1))
        self.assert_raises(InvalidChain, (("add", (True, 1)),), (1, 1))
        self.assert_raises(InvalidChain, (("add", (1, 1.0)),), (1, 1))
        self.assert_raises(InvalidNumber, (("add", (1, 1)),), (True, 1))
        self.assert_raises(InvalidNumber, (("add", (1, 1)),), (1, True))
        self.assert_raises(InvalidNumber, (("add", (1, 1)),), (1.0, 1))
        self.assertEqual(value((), (0, 1)), (0, 1))
        self.assert_raises(InvalidNumber, (), (False, 1))

    def test_steps_of_five_are_too_many_even_where_they_do_nothing(self):
        self.assertEqual(value((("add", (0, 1)),) * 4, (1, 3)), (1, 3))
        self.assert_raises(InvalidChain, (("add", (0, 1)),) * 5, (1, 3))

    def test_arguments_are_not_changed(self):
        for chain, number in [([["down", [1, 1]]], [1, 2]), ((GOOD_STEP,), [2, 4]), ((["add", [2, 4]],), {1: [2]})]:
            before = copy.deepcopy((chain, number))
            with self.assertRaises(ValueError):
                value(chain, number)
            self.assertEqual(repr((chain, number)), repr(before))

    def test_equal_arguments_give_equal_results(self):
        calls = [(chain, number) for chain in itertools.product(SOME_STEPS, repeat=2) for number in [(1, 2), (-7, 3)]]
        first = [value(chain, number) for chain, number in calls]
        again = [value(chain, number) for chain, number in reversed(calls)]
        self.assertEqual(repr(first), repr(again[::-1]))


if __name__ == "__main__":
    unittest.main()
