"""Whether chains rise, and whether they leave what they gave as it is: section 5."""

import itertools
import random
import unittest
from fractions import Fraction

from helper import ALL_STEPS, BAD_CHAINS, SOME_STEPS, TIES, pair, plain_gaps, plain_limits, plain_places, plain_value
from roundwaves.errors import InvalidChain
from roundwaves.forms import form, keeps, rises
from roundwaves.texts import parse_chain

CHAINS_OF_2 = list(itertools.product(SOME_STEPS, repeat=2))


def small_chains(many, most, seed):
    """Chains of up to 4 steps with tops and bottoms up to most."""
    rng = random.Random(seed)
    steps = [step for step in ALL_STEPS if abs(step[1][0]) <= most and step[1][1] <= most]
    return [tuple(rng.choice(steps) for _ in range(rng.choice([1, 2, 3, 4]))) for _ in range(many)]


def period_of(chain):
    told = form(chain)
    return Fraction(*told[1]) if len(told) == 4 else Fraction(1)


class Case(unittest.TestCase):
    def check(self, function, text, wanted):
        with self.subTest(text=text):
            self.assertIs(function(parse_chain(text)), wanted)

    def check_bad(self, function):
        for at, bad in enumerate(BAD_CHAINS):
            with self.subTest(at=at):
                with self.assertRaises(InvalidChain) as caught:
                    function(bad)
                self.assertIs(type(caught.exception), InvalidChain)


class RisesTest(Case):
    def test_by_hand(self):
        for text in [
            "", "add 1", "add -10", "times 2", "times 1/10", "down 1", "up 3/10", "near 7/3 even", "near 1 odd",
            "rest 1; down 1", "down 1; rest 1", "times -1; times -1", "times -1; down 1; times -1",
            "times -2; near 1 even; times -1/2", "near 1/10 up; near 1 up", "down 2; times 3; up 7/2",
            "rest 1; down 1; times -1", "near 1 down; near 3/2 odd",
        ]:
            self.check(rises, text, True)
        for text in [
            "times -1", "times -1/10", "rest 1", "rest 9/4", "times -1; down 1", "down 1; times -2", "rest 1; down 1/2",
            "rest 1; times -1", "times -1; rest 1", "down 1; rest 2", "rest 1; near 1 up", "rest 2; up 1; times -1",
            "near 1 even; rest 2", "rest 1; up 1", "rest 1; times -1; down 1", "times -1; near 1 odd",
        ]:
            self.check(rises, text, False)

    def check_pairs(self, chain):
        period = period_of(chain)
        small = Fraction(1, 10 ** 9)
        numbers = plain_places(chain, Fraction(0), period * 2)[:16] + [Fraction(0), period / 3, period]
        numbers = sorted({number + beside for number in numbers for beside in (-small, 0, small)})
        values = [Fraction(*plain_value(chain, pair(number))) for number in numbers]
        is_rising = all(one <= other for one, other in zip(values, values[1:]))
        with self.subTest(chain=chain):
            self.assertIs(rises(chain), is_rising)

    def test_by_pairs_of_numbers_beside_places_too(self):
        for step in ALL_STEPS:
            self.check_pairs((step,))
        for chain in CHAINS_OF_2:
            self.check_pairs(chain)
        for chain in small_chains(500, 4, 7):
            if len(form(chain)) == 2 or len(form(chain)[3]) <= 8:
                self.check_pairs(chain)

    def test_falls_at_single_numbers_alone(self):
        # The value at 0 lies above, or below, those on both sides of it.
        self.check(rises, "rest 1; times -1; down 1", False)
        self.check(rises, "rest 1; up 1", False)

    def test_what_is_no_chain(self):
        self.check_bad(rises)


class KeepsTest(Case):
    def test_examples_of_the_document(self):
        self.check(keeps, "near 1 up", True)

    def test_by_hand(self):
        for text in [
            "", "add 0", "times 1", "down 1", "up 3/10", "rest 9/4", "near 10/7 odd", "rest 1; down 1",
            "rest 1; down 1; add 5/2", "down 1; add 1/2", "near 1/10 up; near 1 up", "near 1/2 up; near 1 up",
            "rest 1; down 1/2", "rest 1; add 1", "rest 2; rest 1", "times 10; rest 1; times 1/10", "add 1; add -1",
            "times 1/2; down 1; times 2", "times -1; down 1; times -1", "rest 1; down 1/4; times 1", "rest 2; down 1",
            "times -1; times -1", "near 1 even; rest 2; down 2", "down 1; rest 2", "add -1; rest 2; add 1",
        ]:
            self.check(keeps, text, True)
        for text in [
            "add 1", "times 2", "times -1", "times 1/2; add 1", "down 1; add 1", "down 1; times 2", "down 1; times 1/2",
            "rest 1; near 1 up", "rest 1; add 1/2", "rest 1; times -1", "rest 1; times 2", "down 2; down 3",
            "times 1/2; down 1", "times -1; down 1", "rest 1; add -1/2", "rest 3/2; rest 1; add 1/4", "down 1; down 2/3",
            "near 1 even; times 2; near 3 odd", "rest 2; times 1/2", "rest 1; times -1; down 1",
        ]:
            self.check(keeps, text, False)

    def test_rounding_steps_and_rests_keep(self):
        for step in ALL_STEPS:
            wanted = step[0] in ("down", "up", "near", "rest") or step in (("add", (0, 1)), ("times", (1, 1)))
            with self.subTest(step=step):
                self.assertIs(keeps((step,)), wanted)

    def check_twice(self, chain):
        told = form(chain)
        if len(told) == 2:
            slope, a = Fraction(*told[0]), Fraction(*told[1])
            wanted = (slope * slope, slope * a + a) == (slope, a)
        elif Fraction(*told[2]) not in (0, Fraction(*told[1])) and told[0] == (0, 1):
            # Values a period apart grow in another way when all steps are taken once more.
            wanted = False
        else:
            gaps = plain_gaps(chain + chain, chain, period_of(chain))
            wanted = not any(any(gap[2:]) for gap in gaps)
        with self.subTest(chain=chain):
            self.assertIs(keeps(chain), wanted)

    def test_by_taking_the_chain_twice(self):
        for chain in CHAINS_OF_2:
            self.check_twice(chain)
        for chain in small_chains(600, 3, 11) + small_chains(200, 5, 12):
            if len(form(chain)) == 2 or len(form(chain)[3]) < 40:
                self.check_twice(chain)

    def test_by_the_values_of_values(self):
        numbers = [pair(Fraction(top, 24)) for top in range(-60, 61, 5)]
        for chain in CHAINS_OF_2 + small_chains(500, 10, 13):
            if keeps(chain):
                for number in numbers:
                    once = plain_value(chain, number)
                    self.assertEqual(plain_value(chain, once), once, chain)

    def test_no_chain_of_two_steps_with_1_2_4_raises_too_many(self):
        small = {(top, bottom) for top in (1, 2, 4, -1, -2, -4) for bottom in (1, 2, 4)}
        steps = [step for step in ALL_STEPS if step[1] in small or step == ("add", (0, 1))]
        for chain in itertools.product(steps, repeat=2):
            self.assertIn(keeps(chain), (True, False))

    def test_values_at_places_and_ahead_of_them(self):
        # At 0 alone another value is told; it is not kept.
        self.assertEqual(plain_limits(parse_chain("rest 1; up 1; add 1/2"), Fraction(0)), (Fraction(3, 2),
                         Fraction(1, 2), Fraction(3, 2)))
        self.check(keeps, "rest 1; up 1; add 1/2", False)
        self.check(keeps, "rest 1; up 1", False)
        self.check(keeps, "add 1/2; rest 1; up 1; add -1/2", False)
        self.check(keeps, "rest 1; up 1; add 1", False)

    def test_what_is_no_chain(self):
        self.check_bad(keeps)


if __name__ == "__main__":
    unittest.main()
