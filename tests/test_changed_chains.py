"""Chains with steps left out, exchanged or joined: needless, exchangeable, joined and left_out of section 6."""

import itertools
import random
import unittest

from helper import ALL_STEPS, BAD_CHAINS, DEEPEST, GOOD_STEP, OTHER_KINDS, SOME_STEPS
from roundwaves.chains import is_chain
from roundwaves.errors import InvalidChain, InvalidStep, TooMany
from roundwaves.likeness import exchangeable, joined, left_out, needless, same
from roundwaves.texts import parse_chain

# No numbers of steps of a chain with four steps.
NO_STEP_NUMBERS = [at for at in OTHER_KINDS if at != 0 or isinstance(at, (bool, float))] + DEEPEST + [
    4, 5, 100, 10 ** 40, -1, -2, -4, -5, -10 ** 40, 0.0, 2.0, "0", "2", "near", (0,), [0], {0: 0}, (1, 1),
]

NO_CHANGES = ["add 0", "times 1"]


class Case(unittest.TestCase):
    def check_raises(self, error, function, *arguments):
        with self.assertRaises(error) as caught:
            function(*arguments)
        self.assertIs(type(caught.exception), error)


class NeedlessTest(Case):
    def check(self, text, wanted):
        with self.subTest(text=text):
            self.assertEqual(repr(needless(parse_chain(text))), repr(wanted))

    def test_by_hand(self):
        for text, wanted in [
            ("", ()), ("add 1", ()), ("down 1", ()), ("add 0", (0,)), ("times 1", (0,)),
            ("near 1/10 up; near 1 up", ()), ("near 1/9 up; near 1 up", (0,)),
            ("down 1/4; down 1", (0,)), ("down 1; down 1/4", (1,)), ("down 1; down 1", (0, 1)),
            ("down 1; down 1; down 1", (0, 1, 2)), ("down 1; down 1; down 1; down 1", (0, 1, 2, 3)),
            ("add 1; add -1", ()), ("times -1; times -1", ()), ("add 0; add 0", (0, 1)),
            ("rest 1; rest 2", (1,)), ("rest 2; rest 1", (0,)), ("add 1; rest 1", (0,)), ("add 1/2; rest 1", ()),
            ("rest 1; down 1", ()), ("rest 1; down 1; times 5", (2,)), ("rest 1; down 1; rest 3; add 1", (2,)),
            ("times 3; rest 1; down 1", (0,)), ("up 1; down 1", (1,)), ("up 1/2; down 1", ()),
            ("near 1 even; rest 2; down 1", (2,)), ("add 1; down 1; add -1", ()), ("rest 1; down 1; down 1", (1, 2)),
        ]:
            self.check(text, wanted)

    def test_steps_that_change_nothing_at_every_place(self):
        for text in ["", "near 1/10 up; near 1 up", "rest 3/2; near 1 odd; times -1", "times 2; add 1; down 3"]:
            words = text.split("; ") if text else []
            there = needless(parse_chain(text))
            self.assertEqual(there, ())
            for nothing in NO_CHANGES:
                for at in range(len(words) + 1):
                    self.check("; ".join(words[:at] + [nothing] + words[at:]), (at,))

    def test_by_same(self):
        rng = random.Random(29)
        steps = [step for step in ALL_STEPS if abs(step[1][0]) <= 3 and step[1][1] <= 3]
        chains = list(itertools.product(SOME_STEPS, repeat=2))
        chains += [tuple(rng.choice(steps) for _ in range(many)) for many in (3, 4) for _ in range(300)]
        for chain in chains:
            wanted = [at for at in range(len(chain)) if same(chain, chain[:at] + chain[at + 1:])]
            self.assertEqual(needless(chain), tuple(wanted), chain)

    def test_what_is_no_chain(self):
        for bad in BAD_CHAINS:
            self.check_raises(InvalidChain, needless, bad)


class ExchangeableTest(Case):
    def check(self, text, wanted):
        with self.subTest(text=text):
            self.assertEqual(repr(exchangeable(parse_chain(text))), repr(wanted))

    def test_by_hand(self):
        for text, wanted in [
            ("", ()), ("down 1", ()), ("add 1; add 2", (0,)), ("times 2; times -1", (0,)), ("add 1; times 2", ()),
            ("add 0; times 2", (0,)), ("add 1; down 1", (0,)), ("add 1/2; down 1", ()), ("down 1; add -3", (0,)),
            ("down 1; down 2", (0,)), ("down 2; down 3", ()), ("down 1; up 1", ()), ("down 1; down 1", (0,)),
            ("times -1; near 1 even", (0,)), ("times -1; near 1 up", ()), ("times 2; down 1", ()),
            ("rest 1; rest 2", (0,)), ("rest 3/2; rest 1", ()), ("add 1; down 1; add 2", (0, 1)),
            ("add 1; add 2; add 3; add 4", (0, 1, 2)), ("add 1; add 2; times 2; times 3", (0, 2)),
            ("rest 1; down 1; near 1 up", (0,)), ("near 1 up; near 2 up", ()), ("near 1 up; near 3 up", (0,)),
            ("add 2; near 1 odd", (0,)), ("add 1; near 1 odd", ()), ("add 1; near 1 up", (0,)),
            ("times 1; down 1; up 1/3; times 1", (0, 2)), ("times 3; add 1; times 2; times 5", (2,)),
        ]:
            self.check(text, wanted)

    def test_steps_that_change_nothing_at_every_place(self):
        for nothing in NO_CHANGES:
            self.check(nothing + "; down 2; up 3; add 1/2", (0,))
            self.check("down 2; " + nothing + "; up 3; add 1/2", (0, 1))
            self.check("down 2; up 3; " + nothing + "; add 1/2", (1, 2))
            self.check("down 2; up 3; add 1/2; " + nothing, (2,))

    def test_by_same(self):
        rng = random.Random(31)
        steps = [step for step in ALL_STEPS if abs(step[1][0]) <= 3 and step[1][1] <= 3]
        chains = list(itertools.product(SOME_STEPS, repeat=2))
        chains += [tuple(rng.choice(steps) for _ in range(many)) for many in (3, 4) for _ in range(300)]
        for chain in chains:
            wanted = []
            for at in range(len(chain) - 1):
                other = list(chain)
                other[at], other[at + 1] = other[at + 1], other[at]
                if same(chain, tuple(other)):
                    wanted.append(at)
            self.assertEqual(exchangeable(chain), tuple(wanted), chain)

    def test_what_is_no_chain(self):
        for bad in BAD_CHAINS:
            self.check_raises(InvalidChain, exchangeable, bad)


class JoinedTest(Case):
    def test_up_to_four_steps(self):
        for many in range(5):
            for more in range(5 - many):
                for start in range(6):
                    chain = tuple(SOME_STEPS[start:start + many])
                    other = tuple(SOME_STEPS[start + 5:start + 5 + more])
                    told = joined(chain, other)
                    self.assertEqual(repr(told), repr(chain + other))
                    self.assertIs(is_chain(told), True)
        self.assertEqual(joined((), ()), ())

    def test_more_steps(self):
        for many, more in [(4, 1), (1, 4), (3, 2), (2, 3), (4, 4), (3, 3)]:
            self.check_raises(TooMany, joined, tuple(SOME_STEPS[:many]), tuple(SOME_STEPS[4:4 + more]))
            self.check_raises(TooMany, joined, (("add", (0, 1)),) * many, (("times", (1, 1)),) * more)

    def test_the_order_of_the_checks(self):
        full = (GOOD_STEP,) * 4
        for bad in BAD_CHAINS:
            self.check_raises(InvalidChain, joined, bad, full)
            self.check_raises(InvalidChain, joined, full, bad)
            self.check_raises(InvalidChain, joined, bad, bad)
        self.check_raises(InvalidChain, joined, full + full, full)


class LeftOutTest(Case):
    def test_each_step(self):
        for many in range(1, 5):
            for start in range(8):
                chain = tuple(SOME_STEPS[start:start + many])
                for at in range(many):
                    self.assertEqual(repr(left_out(chain, at)), repr(chain[:at] + chain[at + 1:]))

    def test_the_argument_stays(self):
        chain = tuple(SOME_STEPS[:4])
        before = repr(chain)
        left_out(chain, 1)
        joined(chain, ())
        needless(chain)
        exchangeable(chain)
        self.assertEqual(repr(chain), before)

    def test_what_is_no_number_of_a_step(self):
        for at in NO_STEP_NUMBERS:
            with self.subTest(at=repr(at)[:40]):
                self.check_raises(InvalidStep, left_out, (GOOD_STEP,) * 4, at)
        for many in range(4):
            for at in (many, many + 1, -1, -many - 1, True, False, None, "", "0"):
                with self.subTest(many=many, at=at):
                    self.check_raises(InvalidStep, left_out, (GOOD_STEP,) * many, at)

    def test_the_order_of_the_checks(self):
        for bad in BAD_CHAINS:
            for at in (0, 9, True, None, "0"):
                self.check_raises(InvalidChain, left_out, bad, at)


if __name__ == "__main__":
    unittest.main()
