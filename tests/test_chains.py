"""What is a chain and what is none: 2.1, 2.2, 2.3, and is_chain."""

import copy
import itertools
import unittest
from math import gcd

from helper import ALL_STEPS, BAD_CHAINS, SOME_STEPS, steps_with
from roundwaves.chains import is_chain


def is_in_bounds(top, bottom):
    return -10 <= top <= 10 and 1 <= bottom <= 10 and gcd(top, bottom) == 1


class IsChainTest(unittest.TestCase):
    def test_every_step_makes_a_chain(self):
        for step in ALL_STEPS:
            with self.subTest(step=step):
                self.assertIs(is_chain((step,)), True)

    def test_there_are_that_many_steps(self):
        # 63 fractions above 0, and as many below it.
        self.assertEqual(len(ALL_STEPS), 63 * 7 + 127 + 126)

    def test_chains_of_0_to_4_steps(self):
        for many in range(5):
            for at in range(len(SOME_STEPS) - 4):
                chain = tuple(SOME_STEPS[at:at + many])
                with self.subTest(chain=chain):
                    self.assertIs(is_chain(chain), True)

    def test_equal_steps_may_follow_each_other(self):
        for step in SOME_STEPS:
            self.assertIs(is_chain((step,) * 4), True)

    def test_five_steps_are_none(self):
        for step in SOME_STEPS:
            self.assertIs(is_chain((step,) * 5), False)
        self.assertIs(is_chain(tuple(SOME_STEPS[:5])), False)

    def test_lists_are_none(self):
        for step in SOME_STEPS:
            self.assertIs(is_chain([step]), False)
            self.assertIs(is_chain((list(step),)), False)
            self.assertIs(is_chain(((step[0], list(step[1])) + step[2:],)), False)
        self.assertIs(is_chain([]), False)

    def test_bounds_of_each_kind_of_step(self):
        for top, bottom in itertools.product(range(-12, 13), range(-2, 13)):
            for step in steps_with((top, bottom)):
                wanted = is_in_bounds(top, bottom)
                if step[0] == "times":
                    wanted = wanted and top != 0
                elif step[0] != "add":
                    wanted = wanted and top > 0
                with self.subTest(step=step):
                    self.assertIs(is_chain((step,)), wanted)

    def test_fractions_at_the_bounds_and_past_them(self):
        self.assertIs(is_chain((("add", (-10, 1)), ("add", (10, 1)), ("add", (1, 10)), ("add", (-9, 10)))), True)
        self.assertIs(is_chain((("times", (-10, 9)), ("down", (10, 9)), ("up", (1, 10)), ("rest", (10, 7)))), True)
        for fraction in [(-11, 1), (11, 1), (1, 11), (-11, 10), (11, 10), (10, 11), (-10, 11)]:
            for step in steps_with(fraction):
                with self.subTest(step=step):
                    self.assertIs(is_chain((step,)), False)

    def test_0_is_a_fraction_for_add_alone(self):
        self.assertIs(is_chain((("add", (0, 1)),)), True)
        for step in steps_with((0, 1)):
            self.assertIs(is_chain((step,)), step[0] == "add")

    def test_booleans_are_no_integers(self):
        # The chain of integers is asked for first: the other one is equal to it for Python.
        for step in steps_with((1, 1)):
            self.assertIs(is_chain((step,)), True)
        for fraction in [(True, 1), (1, True), (True, True), (1.0, 1), (1, 1.0), (False, 1)]:
            for step in steps_with(fraction):
                with self.subTest(step=step):
                    self.assertIs(is_chain((step,)), False)
        self.assertIs(is_chain((("add", (0, 1)),)), True)
        self.assertIs(is_chain((("add", (False, 1)),)), False)
        self.assertIs(is_chain((("add", (0, True)),)), False)

    def test_what_is_no_chain(self):
        for at, bad in enumerate(BAD_CHAINS):
            with self.subTest(at=at):
                self.assertIs(is_chain(bad), False)

    def test_any_value_is_accepted(self):
        others = [object(), object, is_chain, b"", b"down 1", {1, 2}, frozenset(), 1j, range(3), bytearray(b"x")]
        for other in others:
            for value in [
                other, (other,), ((other, (1, 1)),), (("down", other),), (("add", (other, 1)),),
                (("add", (1, other)),), (("near", (1, 1), other),), (("add", (1, 1)), other),
            ]:
                with self.subTest(value=value):
                    self.assertIs(is_chain(value), False)

    def test_the_value_is_not_changed(self):
        for bad in ([["down", [1, 1]]], ({"down": [1, 1]},), (["down", [2, 4]],), [("add", (True, 1))]):
            before = copy.deepcopy(bad)
            is_chain(bad)
            self.assertEqual(repr(bad), repr(before))


if __name__ == "__main__":
    unittest.main()
