"""The texts of chains: section 4, and guarantee (e) of section 1."""

import copy
import itertools
import re
import unittest

from helper import ALL_STEPS, BAD_CHAINS, DEEP, DEEPEST, OTHER_KINDS, SOME_STEPS, plain_text
from roundwaves.errors import InvalidChain, InvalidText
from roundwaves.texts import format_chain, parse_chain

STEP_OF_TEXT = {plain_text((step,)): step for step in ALL_STEPS}


def plain_parsed(text):
    """The chain with this text, None if there is none: each step's text is looked up."""
    if text == "":
        return ()
    parts = text.split("; ")
    if len(parts) > 4 or any(part not in STEP_OF_TEXT for part in parts):
        return None
    return tuple(STEP_OF_TEXT[part] for part in parts)


class FormatTest(unittest.TestCase):
    def test_told_texts(self):
        for chain, text in [
            ((), ""),
            ((("near", (1, 10), "up"), ("near", (1, 1), "up")), "near 1/10 up; near 1 up"),
            ((("down", (1, 1)),), "down 1"),
            ((("down", (10, 9)),), "down 10/9"),
            ((("up", (3, 10)),), "up 3/10"),
            ((("up", (10, 1)),), "up 10"),
            ((("near", (2, 3), "down"),), "near 2/3 down"),
            ((("near", (2, 1), "even"),), "near 2 even"),
            ((("near", (1, 2), "odd"),), "near 1/2 odd"),
            ((("add", (0, 1)),), "add 0"),
            ((("add", (-1, 2)),), "add -1/2"),
            ((("add", (-10, 1)),), "add -10"),
            ((("times", (-10, 9)),), "times -10/9"),
            ((("times", (2, 1)),), "times 2"),
            ((("rest", (9, 4)),), "rest 9/4"),
            ((("add", (1, 2)), ("down", (1, 1)), ("times", (-1, 1))), "add 1/2; down 1; times -1"),
            ((("rest", (1, 1)),) * 4, "rest 1; rest 1; rest 1; rest 1"),
        ]:
            with self.subTest(text=text):
                self.assertEqual(repr(format_chain(chain)), repr(text))
                self.assertEqual(repr(parse_chain(text)), repr(chain))

    def test_what_is_no_chain(self):
        for at, bad in enumerate(BAD_CHAINS):
            with self.subTest(at=at):
                with self.assertRaises(InvalidChain) as caught:
                    format_chain(bad)
                self.assertIs(type(caught.exception), InvalidChain)

    def test_booleans_after_equal_integers(self):
        self.assertEqual(format_chain((("down", (1, 1)),)), "down 1")
        for fraction in [(True, 1), (1, True), (1.0, 1), (1, 1.0)]:
            with self.assertRaises(InvalidChain):
                format_chain((("down", fraction),))

    def test_the_argument_is_not_changed(self):
        for bad in ([["down", [1, 1]]], (["down", [2, 4]],)):
            before = copy.deepcopy(bad)
            with self.assertRaises(InvalidChain):
                format_chain(bad)
            self.assertEqual(repr(bad), repr(before))


class ThereAndBackTest(unittest.TestCase):
    def check(self, chain):
        with self.subTest(chain=chain):
            text = format_chain(chain)
            self.assertEqual(repr(text), repr(plain_text(chain)))
            self.assertEqual(repr(parse_chain(text)), repr(chain))
            self.assertEqual(repr(format_chain(parse_chain(text))), repr(text))

    def test_no_steps(self):
        self.check(())

    def test_every_step(self):
        for step in ALL_STEPS:
            self.check((step,))

    def test_chains_of_two_and_three_steps(self):
        for many in (2, 3):
            for chain in itertools.product(SOME_STEPS, repeat=many):
                self.check(chain)

    def test_chains_of_four_steps(self):
        for at in range(len(ALL_STEPS)):
            self.check(tuple(ALL_STEPS[(at * k + k) % len(ALL_STEPS)] for k in (1, 7, 31, 151)))

    def test_the_same_again(self):
        self.assertEqual(repr(parse_chain("near 1/10 up")), repr(parse_chain("near 1/10 up")))
        self.assertEqual(format_chain((("down", (1, 1)),)), format_chain((("down", (1, 1)),)))


class NoTextsTest(unittest.TestCase):
    def refuse(self, text):
        with self.subTest(text=repr(text)[:60]):
            with self.assertRaises(InvalidText) as caught:
                parse_chain(text)
            self.assertIs(type(caught.exception), InvalidText)

    def refuse_all(self, texts):
        for text in texts:
            self.refuse(text)

    def test_other_types(self):
        kinds = [kind for kind in OTHER_KINDS if not isinstance(kind, str)]
        self.refuse_all(kinds + DEEP + DEEPEST)
        self.refuse_all([
            0, 1, (), ("down 1",), ["down 1"], {"down 1": 1}, (("down", (1, 1)),), b"", b"down 1", [], [""], ("",),
        ])

    def test_blanks(self):
        self.refuse_all([
            " ", "  ", "down  1", " down 1", "down 1 ", "  down 1", "down1", "down 1  ", "near 1up", "near1 up",
            "near  1 up", "near 1  up", "near 1 up ", " near 1 up", "near 1 / 2 up", "near 1/ 2 up", "near 1 /2 up",
            "add - 1", "add  -1", "add -1 /2", "d own 1", "add 1 0", "down 1;  up 1", "down 1 ; up 1",
            " down 1; up 1", "down 1; up 1 ", "down 1;up 1", "down 1  ; up 1", "down 1; up  1", "down\t1", "down 1\t",
            "\tdown 1", "down\u00a01", "down\u20031", "down 1;\u00a0up 1", "down 1;\tup 1", "near 1\tup",
            "near\t1 up",
        ])

    def test_semicolons(self):
        self.refuse_all([
            ";", "; ", " ;", ";;", "; ; ", "down 1;", "down 1; ", "; down 1", ";down 1", "down 1;; up 1",
            "down 1, up 1", "down 1; ; up 1", "down 1; up 1;", "down 1; up 1; ", "down; 1", "near 1; up",
            "down 1: up 1", "down 1 up 1", "down 1; up 1; up 1; up 1;", "down 1; up 1; up 1; up 1; ", "down 1\nup 1",
            "down 1;\nup 1", "down 1/; 2",
        ])

    def test_signs(self):
        self.refuse_all([
            "add +1", "add --1", "add -0", "add +0", "add -+1", "add +-1", "add ---1", "add -", "add +", "add 1-",
            "add -/2", "add 1/-2", "add -1/-2", "add 1/+2", "add +1/2", "add -0/1", "add 1/--2", "times +1",
            "times --1", "times -0", "down +1", "down -1", "down -1/2", "up +1/2", "rest -1", "near +1 up",
            "near -1 up", "add \u22121", "add \u20131", "add 1/2-", "add -1/", "add - 1/2", "add (1)", "add ~1",
        ])

    def test_zeros_ahead(self):
        self.refuse_all([
            "down 01", "add 00", "add -01", "add -00", "add 010", "add 01/2", "add 1/02", "add 0010", "times 02",
            "near 01 up", "rest 1/010", "add 1/00", "add -1/02", "add 0/01", "down 001/2",
        ])

    def test_fractions_not_in_least_terms(self):
        self.refuse_all([
            "add 2/4", "add 1/1", "add 0/3", "add 0/1", "add -2/4", "add 10/10", "add -3/1", "add 10/1", "add 4/2",
            "add 6/3", "add 9/6", "down 2/4", "up 1/1", "near 2/2 up", "near 5/10 even", "times 0/3", "times 1/1",
            "rest 3/6", "times -1/1", "near 1/1 odd", "add 0/10",
        ])

    def test_bottoms(self):
        self.refuse_all([
            "add 1/0", "add 0/0", "add -1/0", "down 1/0", "add 1/", "add /", "add /1", "add /2", "add 1//2",
            "add 1/2/3", "add 1/2/", "add 1/-1", "add 1\\2", "add 1:2", "add 1.5", "add 0.5", "add .5", "add 1.",
            "add 1e1", "add 1,5",
        ])

    def test_out_of_bounds(self):
        self.refuse_all([
            "add 11", "add -11", "add 1/11", "add -1/11", "add 11/10", "add -11/10", "add 10/11", "add -10/11",
            "add 100", "add 1/100", "add 101", "add -101", "down 11", "up 11/2", "near 11 up", "near 1/11 up",
            "times 11", "rest 1/12", "times -11", "times 0", "down 0", "up 0", "near 0 up", "near 0 even", "rest 0",
            "add 99", "add 12", "add 20",
        ])

    def test_digits(self):
        self.refuse_all([
            "add \u0661", "add \uff11", "add \u00b2", "add \u2460", "add \u00bd", "add 1/\u0662", "add -\u0661",
            "add \u0967", "add \u4e00", "down \uff11", "add 1\u0660", "add 1_0", "add 0x1", "add 0b1", "add 0o1",
            "add 1L", "add one", "add a", "add I", "add x", "add 1a", "add a1", "add \u0660", "add \U0001d7cf",
        ])

    def test_line_feeds(self):
        self.refuse_all([
            "\n", "down 1\n", "\ndown 1", "down\n1", "down 1\r", "down 1\r\n", "down 1; up 1\n", "near 1 up\n",
            "down 1\n; up 1", "add 1/2\n", "add 1\n/2", "down 1\x0b", "down 1\x0c", "down 1\x85", "down 1\u2028",
            "down 1\x00", "\x00", "down\x001",
        ])

    def test_names_and_ties(self):
        self.refuse_all([
            "DOWN 1", "Down 1", "downs 1", "dow 1", "round 1", "1", "1 down", "down", "near", "near up", "near 1",
            "near 1 UP", "near 1 Up", "near 1 ups", "near 1 u", "near 1 zero", "near 1 near", "near up 1",
            "Near 1 up", "near 1 up up", "near 1 1", "near 1 up 1", "down 1 up", "up 1 even", "rest 1 odd",
            "add 1 up", "times 1 up", "down 1 1", "add 1 1", "add", "add ", "times ", "up", "rest", "ADD 1",
            "TIMES 1", "REST 1", "UP 1", "near 1 ", "down '1'", "('down', (1, 1))", "()", "(('down', (1, 1)),)",
            "near \u0055p", "\u0501own 1", "near 1 \uff55p", "None", "True", "down True", "down None", "near 1 None",
            "\ud800", "down \udcff",
        ])

    def test_five_steps(self):
        for step in SOME_STEPS:
            text = plain_text((step,))
            self.assertEqual(parse_chain("; ".join([text] * 4)), (step,) * 4)
            self.refuse("; ".join([text] * 5))
            self.refuse("; ".join([text] * 6))
        self.refuse("; ".join(plain_text((step,)) for step in SOME_STEPS[:5]))

    def test_very_long_texts(self):
        for many in (1000, 100000):
            self.refuse_all([
                " " * many, "d" * many, ";" * many, "; " * many, "down 1; " * many, "; ".join(["down 1"] * many),
                "down" + " " * many + "1", "down 1" + " " * many, "near 1 up" + " up" * many, "near 1 " + "up" * many,
                "/" * many, "add 1" + "/1" * many, "add " + "-" * many + "1", "\n" * many, "(" * many,
            ])

    def test_numbers_with_many_digits(self):
        for many in (3, 4299, 4300, 4301, 5000, 100000):
            self.refuse_all([
                "add " + "9" * many, "add -" + "1" * many, "add 1/" + "9" * many,
                "add " + "7" * many + "/" + "9" * many,
                "add " + "0" * many + "1", "add 1/" + "0" * many + "2", "add " + "0" * many, "add -" + "0" * many,
                "down " + "1" * many, "near 1" + "0" * many + " up", "times 2" + "0" * many, "rest 1/1" + "0" * many,
                "down 1; add " + "9" * many, "add 1" + "0" * many + "/1" + "0" * many,
            ])

    def test_a_character_more_fewer_or_another(self):
        texts = [
            "down 1", "up 3/10", "near 1/10 up", "near 10 down", "near 2/3 even", "near 10/9 odd", "add 0", "add -1/2",
            "add 10", "times -10/9", "times 2", "rest 9/4", "", "down 1; up 1/2", "near 1/10 up; near 1 up",
            "add -1; times -1; rest 1/2; near 7 odd",
        ]
        signs = " ;/-+0123456789adnurUD\n\t\u0661."
        for text in texts:
            changed = [text[:at] + text[at + 1:] for at in range(len(text))]
            changed += [text[:at] + sign + text[at:] for at in range(len(text) + 1) for sign in signs]
            changed += [text[:at] + sign + text[at + 1:] for at in range(len(text)) for sign in signs]
            for other in changed:
                self.check_like_plain(other)

    def check_like_plain(self, text):
        chain = plain_parsed(text)
        if chain is None:
            self.refuse(text)
        else:
            with self.subTest(text=text):
                self.assertEqual(repr(parse_chain(text)), repr(chain))

    def test_every_short_number(self):
        numbers = ["".join(signs) for many in range(1, 5) for signs in itertools.product("-/012", repeat=many)]
        numbers += [str(top) + "/" + str(bottom) for top in range(-12, 13) for bottom in range(-1, 13)]
        for number in numbers:
            for text in ["add " + number, "times " + number, "down " + number, "near " + number + " odd"]:
                self.check_like_plain(text)

    def test_plain_parsing_knows_only_plain_texts(self):
        form = re.compile(r"(down|up|rest|add|times) -?\d+(/\d+)?|near \d+(/\d+)? (up|down|even|odd)")
        self.assertTrue(all(form.fullmatch(text) for text in STEP_OF_TEXT))
        self.assertEqual(len(STEP_OF_TEXT), len(ALL_STEPS))


if __name__ == "__main__":
    unittest.main()
