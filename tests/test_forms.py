"""The forms of chains: 2.4, 2.5, form and count_jumps, and guarantees (a) and (b) of section 1."""

import itertools
import random
import time
import unittest
from fractions import Fraction
from math import floor

from helper import (
    ALL_STEPS, BAD_CHAINS, SOME_STEPS, TIES, pair, plain_limits, plain_places, plain_value, told_at,
)
from roundwaves.chains import value
from roundwaves.errors import InvalidChain
from roundwaves.forms import count_jumps, form
from roundwaves.texts import parse_chain

# What the tests of whole forms go through; those of 3 and 4 steps have few places.
CHAINS_OF_2 = list(itertools.product(SOME_STEPS, repeat=2))
LONGER_CHAINS = [
    parse_chain(text) for text in [
        "near 1 even; times 1/2; near 1 even", "down 1/2; times 3/2; down 1", "rest 3; down 1/2; times -1; near 1 odd",
        "times 1/3; rest 1; times 2; near 1 down", "rest 5/2; rest 1; add -1/2; down 1/2", "up 2/3; up 3/4; up 4/5",
        "near 1/10 up; near 1 up; rest 2", "add 1/3; down 1/2; add 1/3; down 1/2", "rest 1; times -1; down 1; rest 2",
        "near 3/2 even; near 2 odd; times -2/3; near 1/2 even", "rest 2; times 3; rest 1; down 1/4",
        "times 3; down 3/2; near 2 up", "rest 7/2; rest 2/3; near 5/6 odd", "up 1/8; times 9; up 6/5",
        "rest 2; times 3; rest 4; times -1/2", "down 1; times 1/2; rest 1; up 1/3", "near 1/2 odd; rest 3/4; add 1",
    ]
]


def plain(number):
    return Fraction(*number)


def rows_of(told):
    """The form told as a text: slope and a; or slope, period, rise, and for each place three numbers."""
    return tuple(pair(Fraction(word)) for word in told.split())


def form_of(told):
    """The form that is told as: slope a, or: slope period rise: place value a, place value a."""
    head, colon, places = told.partition(": ")
    if not colon:
        return rows_of(head)
    return rows_of(head) + (tuple(rows_of(place) for place in places.split(", ")),)


class Case(unittest.TestCase):
    def check_table(self, rows):
        for text, told in rows:
            with self.subTest(text=text):
                # repr also tells 1 from True and a tuple from a list.
                self.assertEqual(repr(form(parse_chain(text))), repr(form_of(told)))


class ByHandTest(Case):
    def test_examples_of_the_document(self):
        near = form((("near", (1, 1), "up"),))
        self.assertEqual(repr(near), "((0, 1), (1, 1), (1, 1), (((1, 2), (1, 1), (1, 1)),))")
        self.assertEqual(repr(form(())), "((1, 1), (0, 1))")
        self.assertEqual(count_jumps((("near", (1, 1), "even"),)), 2)

    def test_down(self):
        self.check_table([
            ("down 1", "0 1 1: 0 0 0"), ("down 3/10", "0 3/10 3/10: 0 0 0"), ("down 10", "0 10 10: 0 0 0"),
        ])

    def test_up(self):
        self.check_table([
            ("up 1", "0 1 1: 0 0 1"), ("up 7/3", "0 7/3 7/3: 0 0 7/3"), ("up 1/10", "0 1/10 1/10: 0 0 1/10"),
        ])

    def test_near(self):
        self.check_table([
            ("near 1 up", "0 1 1: 1/2 1 1"),
            ("near 1 down", "0 1 1: 1/2 0 1"),
            ("near 1 even", "0 2 2: 1/2 0 1, 3/2 2 2"),
            ("near 1 odd", "0 2 2: 1/2 1 1, 3/2 1 2"),
            ("near 3/2 up", "0 3/2 3/2: 3/4 3/2 3/2"),
            ("near 3/2 down", "0 3/2 3/2: 3/4 0 3/2"),
            ("near 1/10 even", "0 1/5 1/5: 1/20 0 1/10, 3/20 1/5 1/5"),
            ("near 10/7 odd", "0 20/7 20/7: 5/7 10/7 10/7, 15/7 10/7 20/7"),
        ])

    def test_rest(self):
        self.check_table([
            ("rest 1", "1 1 0: 0 0 0"), ("rest 9/4", "1 9/4 0: 0 0 0"), ("rest 1/10", "1 1/10 0: 0 0 0"),
        ])

    def test_add_and_times(self):
        self.check_table([
            ("add 1/2", "1 1/2"), ("add 0", "1 0"), ("add -10/3", "1 -10/3"),
            ("times 5/2", "5/2 0"), ("times -3/10", "-3/10 0"), ("times 1", "1 0"),
        ])

    def test_pairs_with_factors(self):
        self.check_table([
            ("times 2; down 1", "0 1/2 1: 0 0 0"),
            ("times -1; down 1", "0 1 -1: 0 0 -1"),
            ("times -1; up 1", "0 1 -1: 0 0 0"),
            ("times -2; rest 1", "-2 1/2 0: 0 0 1"),
            ("times 2/3; rest 1", "2/3 3/2 0: 0 0 0"),
            ("times -1; near 1 even", "0 2 -2: 1/2 0 -1, 3/2 -2 -2"),
            ("times -1; near 1 up", "0 1 -1: 1/2 0 -1"),
            ("times 1/2; near 1 up", "0 2 1: 1 1 1"),
            ("down 1; times -1/2", "0 1 -1/2: 0 0 0"),
            ("near 1 odd; times -3", "0 2 -6: 1/2 -3 -3, 3/2 -3 -6"),
            ("rest 1; times -1", "-1 1 0: 0 0 0"),
        ])

    def test_pairs_with_sums(self):
        self.check_table([
            ("add 1/2; down 1", "0 1 1: 1/2 1 1"),
            ("add 1/3; near 1 down", "0 1 1: 1/6 0 1"),
            ("add 1/3; near 1 up", "0 1 1: 1/6 1 1"),
            ("add -1/3; near 1 down", "0 1 1: 5/6 0 1"),
            ("add -5/2; up 1", "0 1 1: 1/2 -2 -1"),
            ("add 1/4; rest 1", "1 1 0: 3/4 0 -3/4"),
            ("down 1; add 1/2", "0 1 1: 0 1/2 1/2"),
            ("rest 1; add -1/2", "1 1 0: 0 -1/2 -1/2"),
        ])

    def test_pairs_of_roundings(self):
        self.check_table([
            ("down 1; down 2", "0 2 2: 0 0 0"),
            ("down 2; down 1", "0 2 2: 0 0 0"),
            ("up 1; down 1", "0 1 1: 0 0 1"),
            ("down 1; near 2 even", "0 4 4: 2 2 2, 3 4 4"),
            ("near 1/10 up; near 1 up", "0 1 1: 9/20 1 1"),
            ("down 1; down 3/2", "0 3 3: 0 0 0, 2 3/2 3/2"),
            ("down 3/2; down 1", "0 3 3: 0 0 0, 3/2 1 1"),
            ("near 1 down; up 2", "0 2 2: 1/2 0 2"),
        ])

    def test_pairs_with_rests(self):
        self.check_table([
            ("rest 1; down 1/2", "0 1 0: 0 0 0, 1/2 1/2 1/2"),
            ("rest 1; near 1 up", "0 1 0: 0 0 0, 1/2 1 1"),
            ("rest 1; up 1", "0 1 0: 0 0 1"),
            ("rest 2; rest 1", "1 1 0: 0 0 0"),
            ("rest 1; rest 2", "1 1 0: 0 0 0"),
            ("rest 3/2; rest 1", "1 3/2 0: 0 0 0, 1 0 -1"),
            ("near 1 even; rest 2", "0 2 0: 1/2 0 1, 3/2 0 0"),
            ("down 1; rest 2", "0 2 0: 0 0 0, 1 1 1"),
        ])

    def test_places_of_single_numbers(self):
        self.check_table([
            ("rest 1; times -1; down 1", "0 1 0: 0 0 -1"),
            ("rest 1; up 1; times -2", "0 1 0: 0 0 -2"),
            ("add 1/2; rest 1; up 1", "0 1 0: 1/2 0 1"),
        ])

    def test_three_and_four_steps(self):
        self.check_table([
            ("near 1 even; times 1/2; near 1 even", "0 4 2: 3/2 1 1, 5/2 1 2"),
            ("down 1; times 1/2; rest 1", "0 2 0: 0 0 0, 1 1/2 1/2"),
            ("times -1; down 1; times -1", "0 1 1: 0 0 1"),
            ("rest 2; times 1/2; near 1 up", "0 2 0: 0 0 0, 1 1 1"),
            ("up 1/2; times -3; down 2", "0 2 -6: 0 0 -2, 1/2 -2 -4, 1 -4 -6"),
            ("times -1; rest 1; times -1; add 1", "1 1 0: 0 1 0"),
        ])

    def test_chains_that_become_lines(self):
        self.check_table([
            ("add 1; add 2", "1 3"), ("add 1/3; add -1/3", "1 0"), ("times 2; times 1/2", "1 0"),
            ("add 1/3; times 3", "3 1"), ("times -1; add 1; times -1; add 1", "1 0"), ("times -1; times -1", "1 0"),
        ])

    def test_chains_that_become_constants(self):
        self.check_table([
            ("rest 1; down 1", "0 0"), ("down 1; rest 1", "0 0"), ("near 1 up; rest 1/2", "0 0"),
            ("rest 1; down 1; add 5/2", "0 5/2"), ("rest 1; down 1; near 3 odd", "0 0"),
            ("rest 1; down 1; add 3/2; near 3 odd", "0 3"), ("rest 1; down 1; add 3/2; near 3 even", "0 0"),
            ("near 1 up; add 1/2; near 1 even; rest 2", "0 0"), ("down 1/10; times 10; rest 1", "0 0"), ("rest 1/2; add 1; down 1; times -7/3", "0 -7/3"),
        ])

    def test_count_jumps(self):
        for text, many in [
            ("", 0), ("add 1", 0), ("times -2; add 1", 0), ("rest 1; down 1", 0), ("down 1", 1), ("up 7/3", 1),
            ("near 1 up", 1), ("near 1 odd", 2), ("rest 1", 1), ("rest 1; near 1 up", 2), ("rest 1; down 1/10", 10),
            ("rest 1; times 10; down 1/10", 100), ("down 1; near 2 even", 2), ("near 1/10 up; near 1 up", 1),
            ("rest 3/2; rest 1", 2), ("rest 10; times 10; down 1/10", 1000), ("rest 10; times 10; near 1/10 up", 1001),
        ]:
            with self.subTest(text=text):
                self.assertEqual(repr(count_jumps(parse_chain(text))), repr(many))


class WholeFormsTest(unittest.TestCase):
    """Forms against the second reading of the document, which works without periods."""

    def check(self, chain):
        told = form(chain)
        with self.subTest(chain=chain):
            if len(told) == 2:
                self.assertEqual(plain_places(chain, Fraction(-9), Fraction(9)), [])
                for x in (Fraction(0), Fraction(1), Fraction(-5, 3), Fraction(13, 7)):
                    self.assertEqual(pair(told_at(told, x)[0]), plain_value(chain, pair(x)))
            else:
                self.check_places(chain, told)
                self.check_least(chain, told)

    def check_places(self, chain, told):
        slope, period, rise = (plain(part) for part in told[:3])
        places = [plain(row[0]) for row in told[3]]
        self.assertTrue(all(0 <= place < period for place in places))
        # Each told place is one, and none is left out, in this period and in those beside it.
        around = [place + turn * period for turn in (-1, 0, 1) for place in places]
        self.assertEqual(plain_places(chain, -period, 2 * period), around)
        for x in around:
            ahead, at, behind = plain_limits(chain, x)
            self.assertEqual(told_at(told, x), (at, behind - slope * x))
            self.assertEqual(plain_limits(chain, x + period), (ahead + rise, at + rise, behind + rise))

    def check_least(self, chain, told):
        # If a lesser period would do, so would one of these, as the places repeat themselves with it.
        period = plain(told[1])
        for parts in range(2, len(told[3]) + 1):
            if len(told[3]) % parts == 0:
                changes = set()
                for row in told[3]:
                    here = plain_limits(chain, plain(row[0]))
                    later = plain_limits(chain, plain(row[0]) + period / parts)
                    changes.update(after - before for before, after in zip(here, later))
                self.assertGreater(len(changes), 1)

    def test_lone_steps(self):
        for step in ALL_STEPS:
            self.check((step,))

    def test_pairs(self):
        for chain in CHAINS_OF_2:
            self.check(chain)
        for at in range(0, len(ALL_STEPS) ** 2, 3011):
            self.check((ALL_STEPS[at // len(ALL_STEPS)], ALL_STEPS[at % len(ALL_STEPS)]))

    def test_longer_chains(self):
        for chain in LONGER_CHAINS:
            self.check(chain)
        some = [step for step in SOME_STEPS if step[1] != (1, 10)]
        for chain in itertools.islice(itertools.product(some, repeat=3), 0, None, 31):
            self.check(chain)
        for chain in itertools.islice(itertools.product(some, repeat=4), 0, None, 1301):
            if count_jumps(chain) < 60:
                self.check(chain)

    def test_chains_of_random_small_steps(self):
        rng = random.Random(5)
        small = [step for step in ALL_STEPS if abs(step[1][0]) <= 3 and step[1][1] <= 3]
        for _ in range(400):
            self.check(tuple(rng.choice(small) for _ in range(rng.choice([2, 3, 4]))))


class ToldValuesTest(unittest.TestCase):
    def check(self, chain):
        told = form(chain)
        period = plain(told[1]) if len(told) == 4 else Fraction(1)
        numbers = [plain(row[0]) for row in told[3]] if len(told) == 4 else [Fraction(0), Fraction(1, 3)]
        numbers = numbers[:6] + numbers[-2:]
        small = Fraction(1, 10 ** 9)
        for number, later in zip(numbers, numbers[1:] + [numbers[0] + period]):
            for turn in (-3, -1, 0, 1, 2, 50):
                for x in (number, number - small, number + small, (number + later) / 2, (number + 2 * later) / 3):
                    x += turn * period
                    self.assertEqual(pair(told_at(told, x)[0]), value(chain, pair(x)), (chain, x))

    def test_lone_steps(self):
        for step in ALL_STEPS[::2]:
            self.check((step,))

    def test_pairs_and_longer_chains(self):
        for chain in CHAINS_OF_2[::2] + LONGER_CHAINS:
            self.check(chain)

    def test_whole_numbers_and_tenths(self):
        for chain in CHAINS_OF_2[1::2]:
            told = form(chain)
            for tenths in range(-60, 61, 7):
                x = Fraction(tenths, 10)
                self.assertEqual(pair(told_at(told, x)[0]), value(chain, pair(x)), (chain, x))


class EqualFormsTest(unittest.TestCase):
    AMOUNTS = ["1", "3/10", "7/3", "2", "10/9", "1/10"]

    def check(self, text, other):
        with self.subTest(text=text, other=other):
            self.assertEqual(form(parse_chain(text)), form(parse_chain(other)))

    def check_unlike(self, text, other):
        with self.subTest(text=text, other=other):
            self.assertNotEqual(form(parse_chain(text)), form(parse_chain(other)))

    def test_rounding_up_by_opposites(self):
        for m in self.AMOUNTS:
            self.check("up " + m, "times -1; down " + m + "; times -1")
            self.check("down " + m, "times -1; up " + m + "; times -1")
            self.check("near " + m + " up", "times -1; near " + m + " down; times -1")
            self.check("near " + m + " even", "times -1; near " + m + " even; times -1")
            self.check_unlike("up " + m, "down " + m)

    def test_rounding_to_the_nearest_by_a_half_added(self):
        for m, half in [("1", "1/2"), ("2", "1"), ("3/5", "3/10"), ("7/5", "7/10"), ("1/5", "1/10")]:
            self.check("near " + m + " up", "add " + half + "; down " + m)
            self.check("near " + m + " down", "add -" + half + "; up " + m)
            self.check_unlike("near " + m + " up", "add -" + half + "; up " + m)

    def test_the_same_rounding_twice(self):
        for m in self.AMOUNTS:
            for step in ["down " + m, "up " + m, "rest " + m] + ["near " + m + " " + tie for tie in TIES]:
                self.check(step, step + "; " + step)

    def test_a_finer_rounding_that_is_not_noticed(self):
        self.check("down 1/4; down 1", "down 1")
        self.check("up 1/10; up 1", "up 1")
        self.check("down 1/3; down 2/3", "down 2/3")
        self.check("near 1/3 up; near 1 up", "near 1 up")
        self.check("near 1/9 up; near 1 up", "near 1 up")
        self.check("near 1/5 even; near 1 even", "near 1 even")
        self.check_unlike("near 1/2 up; near 1 up", "near 1 up")
        self.check_unlike("near 1/10 up; near 1 up", "near 1 up")
        self.check_unlike("down 2/3; down 1", "down 1")
        self.check_unlike("down 1/4; up 1", "up 1")

    def test_by_factors(self):
        self.check("times 2; down 1; times 1/2", "down 1/2")
        self.check("times 10; rest 1; times 1/10", "rest 1/10")
        self.check("add 1; down 1; add -1", "down 1")
        self.check("add 2; rest 1", "rest 1")
        self.check_unlike("add 1/2; rest 1", "rest 1")

    def test_if_and_only_if_the_values_are_equal(self):
        chains = CHAINS_OF_2[::3] + LONGER_CHAINS
        numbers = [pair(Fraction(top, 60)) for top in range(-130, 131, 13)]
        numbers += [pair(Fraction(top, 20)) for top in range(-25, 26)]
        seen = {}
        for chain in chains:
            # Equal forms are told for equal values alone; what the values part, parts the forms.
            values = tuple(plain_value(chain, number) for number in numbers)
            self.assertEqual(seen.setdefault(form(chain), values), values, chain)


class NotTooManyTest(unittest.TestCase):
    """No chain within 2.5 raises TooMany, and each comes to its form soon."""

    SECONDS = 5

    def answer(self, chain):
        start = time.perf_counter()
        told = form(chain)
        self.assertLess(time.perf_counter() - start, self.SECONDS, chain)
        return told

    def test_chains_of_two_steps(self):
        for at in range(0, len(ALL_STEPS) ** 2, 7):
            self.answer((ALL_STEPS[at // len(ALL_STEPS)], ALL_STEPS[at % len(ALL_STEPS)]))

    def test_chains_of_two_steps_with_many_places(self):
        amounts = [(1, 10), (10, 1), (7, 10), (9, 10), (10, 7), (10, 9), (9, 7), (7, 9), (8, 9), (9, 8), (1, 9), (9, 1)]
        steps = [step for step in ALL_STEPS if step[1] in amounts and step[-1] not in ("up", "odd")]
        for chain in itertools.product(steps, repeat=2):
            self.answer(chain)
        self.assertEqual(count_jumps(parse_chain("rest 10; down 1/10")), 100)
        self.assertEqual(count_jumps(parse_chain("near 7/10 even; rest 9")), 90)

    def test_chains_of_four_steps_with_1_2_4(self):
        small = {(top, bottom) for top in (1, 2, 4, -1, -2, -4) for bottom in (1, 2, 4)}
        steps = [step for step in ALL_STEPS if step[1] in small or step == ("add", (0, 1))]
        self.assertEqual(len(steps), 5 * 7 + 11 + 10)
        rng = random.Random(3)
        for _ in range(6000):
            self.answer(tuple(rng.choice(steps) for _ in range(4)))

    def test_chains_of_four_steps_with_many_places(self):
        steps = parse_chain("down 1/4; down 4; rest 1/4; rest 4") + parse_chain("times 4; times 1/4; times -4")
        steps += parse_chain("near 1/4 even; near 4 odd; near 4 even; near 1/4 up")
        for chain in itertools.product(steps, repeat=4):
            self.answer(chain)
        self.assertEqual(count_jumps(parse_chain("rest 4; times 4; times 4; down 1/4")), 256)
        self.assertEqual(count_jumps(parse_chain("near 1/4 even; times 1/4; times 1/4; rest 4")), 256)
        self.assertEqual(count_jumps(parse_chain("near 1/4 even; times 1/4; times 1/4; near 4 even")), 2)

    def test_chains_with_most_places(self):
        # The document lets these raise TooMany; their forms are worked out all the same.
        for text, many in [
            ("near 9/10 odd; times 9/10; times 9/10; near 10/3 even", None),
            ("near 1/10 even; times 1/10; times 1/10; near 10 odd", 2),
            ("near 1/10 even; times 1/10; times 1/10; rest 10", 10000),
            ("rest 10; times 10; times 10; near 1/10 even", 10001),
            ("rest 10; times 10; times 10; rest 1/10", 1),
        ]:
            told = self.answer(parse_chain(text))
            if many is not None:
                self.assertEqual(len(told[3]), many, text)


class ArgumentsTest(unittest.TestCase):
    def test_what_is_no_chain(self):
        for function in (form, count_jumps):
            for at, bad in enumerate(BAD_CHAINS):
                with self.subTest(function=function.__name__, at=at):
                    with self.assertRaises(InvalidChain) as caught:
                        function(bad)
                    self.assertIs(type(caught.exception), InvalidChain)

    def test_booleans_after_equal_integers(self):
        self.assertEqual(form((("add", (1, 1)),)), ((1, 1), (1, 1)))
        with self.assertRaises(InvalidChain):
            form((("add", (True, 1)),))

    def test_equal_arguments_give_equal_results(self):
        first = [form(chain) for chain in LONGER_CHAINS]
        again = [form(chain) for chain in reversed(LONGER_CHAINS)]
        self.assertEqual(repr(first), repr(again[::-1]))

    def test_only_tuples_of_integers(self):
        def check(told):
            self.assertIs(type(told), tuple)
            for part in told:
                if type(part) is not int:
                    check(part)
        for chain in CHAINS_OF_2[::5] + LONGER_CHAINS:
            check(form(chain))

    def test_told_at_helps_as_it_should(self):
        told = form_of("0 2 2: 1/2 0 1, 3/2 2 2")
        for x in [Fraction(k, 4) for k in range(-20, 20)]:
            low = floor(x)
            nearest = low if x - low < Fraction(1, 2) else low + 1
            if x - low == Fraction(1, 2):
                nearest = low + low % 2
            self.assertEqual(told_at(told, x)[0], nearest)


if __name__ == "__main__":
    unittest.main()
