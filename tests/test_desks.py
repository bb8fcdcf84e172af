"""Desks: section 8, and guarantee (e) of section 1."""

import random
import unittest

from helper import ALL_STEPS, BAD_CHAINS, BAD_STEPS, DEEPEST, GOOD_STEP, OTHER_KINDS, SOME_STEPS
from roundwaves.desks import Desk
from roundwaves.errors import InvalidChain, InvalidStep, NothingToUndo, TooMany
from roundwaves.likeness import same
from roundwaves.texts import parse_chain

NO_NUMBERS = OTHER_KINDS + DEEPEST + [10 ** 40, -1, -2, -10 ** 40, 2.0, "0", "2", (0,), [0], {0: 0}, (1, 1), GOOD_STEP]

DOWN, UP, NEAR, NOTHING = parse_chain("down 1; up 1; near 1 even; add 0")


class Case(unittest.TestCase):
    def refuse(self, error, function, *arguments):
        with self.assertRaises(error) as caught:
            function(*arguments)
        self.assertIs(type(caught.exception), error)

    def state(self, desk):
        """All that can be seen of the desk, which is left as it was."""
        seen = [desk.chain(), len(desk)]
        undone = again = 0
        for _ in range(len(desk)):
            desk.undo()
            undone += 1
            seen.append(desk.chain())
        self.refuse(NothingToUndo, desk.undo)
        for _ in range(undone):
            desk.redo()
        try:
            while True:
                desk.redo()
                again += 1
                seen.append(desk.chain())
        except NothingToUndo:
            pass
        for _ in range(again):
            desk.undo()
        return seen + [undone, again]


class PutAndTakeTest(Case):
    def test_a_new_desk(self):
        for chain in [(), (DOWN,), tuple(SOME_STEPS[:4])]:
            desk = Desk(chain)
            self.assertEqual(repr(desk.chain()), repr(chain))
            self.assertEqual(len(desk), 0)
            self.refuse(NothingToUndo, desk.undo)
            self.refuse(NothingToUndo, desk.redo)

    def test_what_is_no_chain(self):
        for at, bad in enumerate(BAD_CHAINS):
            with self.subTest(at=at):
                self.refuse(InvalidChain, Desk, bad)

    def test_put_at_each_place(self):
        for many in range(4):
            chain = tuple(SOME_STEPS[:many])
            for at in range(many + 1):
                desk = Desk(chain)
                wanted = chain[:at] + (NEAR,) + chain[at:]
                self.assertIs(desk.put(at, NEAR), not same(chain, wanted))
                self.assertEqual(repr(desk.chain()), repr(wanted))
                self.assertEqual(len(desk), 1)

    def test_take_at_each_place(self):
        for many in range(1, 5):
            chain = tuple(SOME_STEPS[:many])
            for at in range(many):
                desk = Desk(chain)
                wanted = chain[:at] + chain[at + 1:]
                self.assertIs(desk.take(at), not same(chain, wanted))
                self.assertEqual(repr(desk.chain()), repr(wanted))
                self.assertEqual(len(desk), 1)

    def test_every_step(self):
        for step in ALL_STEPS:
            desk = Desk(())
            self.assertIs(desk.put(0, step), step not in (("add", (0, 1)), ("times", (1, 1))))
            self.assertEqual(desk.chain(), (step,))

    def test_what_is_returned(self):
        desk = Desk(())
        self.assertIs(desk.put(0, DOWN), True)
        self.assertIs(desk.put(0, DOWN), False)
        self.assertIs(desk.put(2, UP), False)
        self.assertIs(desk.put(0, UP), True)
        self.assertIs(desk.take(1), False)
        self.assertIs(desk.undo(), False)
        self.assertIs(desk.undo(), True)
        self.assertIs(desk.undo(), False)
        self.assertIs(desk.undo(), False)
        self.assertIs(desk.undo(), True)
        self.assertIs(desk.redo(), True)
        self.assertIs(desk.redo(), False)
        self.assertIs(desk.redo(), False)
        self.assertIs(desk.redo(), True)
        self.assertIs(desk.redo(), False)
        self.assertEqual(desk.chain(), (UP, DOWN, UP))

    def test_unlike_at_single_numbers_alone(self):
        desk = Desk((NEAR,))
        self.assertIs(desk.put(0, ("near", (1, 3), "up")), True)
        self.assertIs(desk.undo(), True)
        self.assertIs(desk.put(0, ("near", (1, 3), "odd")), False)

    def test_wrong_puts(self):
        for many in range(5):
            desk = Desk(tuple(SOME_STEPS[:many]))
            before = self.state(desk)
            for at in NO_NUMBERS + [many + 1, many + 2, 5, 100]:
                self.refuse(InvalidStep, desk.put, at, DOWN)
            for step in BAD_STEPS:
                self.refuse(InvalidStep, desk.put, 0, step)
            for at, step in zip(NO_NUMBERS, BAD_STEPS):
                self.refuse(InvalidStep, desk.put, at, step)
            self.assertEqual(self.state(desk), before)

    def test_wrong_takes(self):
        for many in range(5):
            desk = Desk(tuple(SOME_STEPS[:many]))
            before = self.state(desk)
            for at in NO_NUMBERS + [many, many + 1, 5, 100]:
                self.refuse(InvalidStep, desk.take, at)
            self.assertEqual(self.state(desk), before)

    def test_a_fifth_step(self):
        desk = Desk((DOWN, NOTHING, NOTHING))
        desk.put(3, NOTHING)
        before = self.state(desk)
        for at in range(5):
            self.refuse(TooMany, desk.put, at, NOTHING)
        # Wrong arguments are told first.
        for at, step in [(5, NOTHING), (-1, NOTHING), (True, NOTHING), (None, None), (0, None), (4, ("down", (0, 1)))]:
            self.refuse(InvalidStep, desk.put, at, step)
        self.assertEqual(self.state(desk), before)
        desk.take(0)
        desk.put(0, UP)
        self.assertEqual(desk.chain(), (UP, NOTHING, NOTHING, NOTHING))


class UndoAndRedoTest(Case):
    def make(self):
        """A desk with three changes, the last one undone."""
        desk = Desk((DOWN,))
        desk.put(1, UP)
        desk.put(0, NEAR)
        desk.take(1)
        desk.undo()
        return desk

    def test_there_and_back(self):
        desk = Desk((DOWN,))
        chains = [desk.chain()]
        for change in [lambda: desk.put(0, UP), lambda: desk.put(2, NEAR), lambda: desk.take(0), lambda: desk.take(1)]:
            change()
            chains.append(desk.chain())
        for at in (3, 2, 1, 0):
            desk.undo()
            self.assertEqual((desk.chain(), len(desk)), (chains[at], at))
        self.refuse(NothingToUndo, desk.undo)
        for at in (1, 2, 3, 4):
            desk.redo()
            self.assertEqual((desk.chain(), len(desk)), (chains[at], at))
        self.refuse(NothingToUndo, desk.redo)
        self.assertEqual((desk.chain(), len(desk)), (chains[4], 4))

    def test_after_a_refused_change(self):
        desk = self.make()
        self.refuse(InvalidStep, desk.put, 9, DOWN)
        self.refuse(InvalidStep, desk.put, 0, None)
        self.refuse(InvalidStep, desk.take, 3)
        self.assertEqual(len(desk), 2)
        desk.redo()
        self.assertEqual(desk.chain(), (NEAR, UP))
        self.refuse(NothingToUndo, desk.redo)
        desk.undo()
        desk.put(0, NOTHING)
        desk.undo()
        self.refuse(TooMany, Desk((DOWN,) * 4).put, 0, DOWN)
        desk.redo()
        self.refuse(TooMany, desk.put, 0, DOWN)
        self.assertEqual((desk.chain(), len(desk)), ((NOTHING, NEAR, DOWN, UP), 3))

    def test_after_too_many(self):
        desk = Desk((DOWN,) * 4)
        desk.take(0)
        desk.undo()
        self.refuse(TooMany, desk.put, 0, UP)
        desk.redo()
        self.assertEqual(desk.chain(), (DOWN,) * 3)

    def test_after_a_new_change(self):
        for change in [lambda desk: desk.put(0, DOWN), lambda desk: desk.take(0), lambda desk: desk.put(1, NOTHING)]:
            desk = self.make()
            change(desk)
            self.assertEqual(len(desk), 3)
            self.refuse(NothingToUndo, desk.redo)
            desk.undo()
            self.assertEqual(desk.chain(), (NEAR, DOWN, UP))

    def test_a_new_change_that_is_undone(self):
        desk = self.make()
        desk.put(0, DOWN)
        desk.undo()
        desk.redo()
        self.assertEqual(desk.chain(), (DOWN, NEAR, DOWN, UP))
        self.refuse(NothingToUndo, desk.redo)

    def test_performing_again_leaves_the_others_undone(self):
        desk = self.make()
        desk.undo()
        desk.undo()
        for many in (1, 2, 3):
            desk.redo()
            self.assertEqual(len(desk), many)
        self.refuse(NothingToUndo, desk.redo)

    def test_nothing_to_undo_changes_nothing(self):
        desk = Desk(())
        self.refuse(NothingToUndo, desk.undo)
        self.refuse(NothingToUndo, desk.redo)
        desk.put(0, DOWN)
        self.refuse(NothingToUndo, desk.redo)
        self.assertEqual((desk.chain(), len(desk)), ((DOWN,), 1))
        desk.undo()
        self.refuse(NothingToUndo, desk.undo)
        desk.redo()
        self.assertEqual((desk.chain(), len(desk)), ((DOWN,), 1))

    def test_told_chains_stay(self):
        desk = Desk((DOWN,))
        first = desk.chain()
        desk.put(0, UP)
        self.assertEqual(first, (DOWN,))


class EqualityTest(Case):
    def check(self, one, other, is_equal):
        self.assertIs(one == other, is_equal)
        self.assertIs(other == one, is_equal)
        self.assertIs(one != other, not is_equal)

    def test_new_desks(self):
        self.check(Desk(()), Desk(()), True)
        self.check(Desk((DOWN, UP)), Desk((DOWN, UP)), True)
        self.check(Desk((DOWN,)), Desk((UP,)), False)
        # Not the values count, but the chains.
        self.check(Desk((DOWN,)), Desk((DOWN, DOWN)), False)

    def test_the_way_counts(self):
        one, other = Desk((DOWN,)), Desk(())
        other.put(0, DOWN)
        self.assertEqual(one.chain(), other.chain())
        self.check(one, other, False)
        again = Desk((DOWN,))
        again.put(0, UP)
        again.take(0)
        self.assertEqual(one.chain(), again.chain())
        self.check(one, again, False)
        one.put(1, UP)
        one.take(1)
        self.check(one, again, False)

    def test_only_the_chains_count(self):
        # Another change that leads to the same chain.
        one, other = Desk((DOWN, DOWN)), Desk((DOWN, DOWN))
        one.take(0)
        other.take(1)
        self.check(one, other, True)
        one.put(0, DOWN)
        other.put(1, DOWN)
        self.check(one, other, True)

    def test_undone_changes_are_left_aside(self):
        one, other = Desk((DOWN,)), Desk((DOWN,))
        one.put(0, UP)
        self.check(one, other, False)
        one.undo()
        self.check(one, other, True)
        other.put(1, NEAR)
        other.undo()
        self.check(one, other, True)
        one.redo()
        self.check(one, other, False)
        other.put(0, UP)
        self.check(one, other, True)

    def test_the_sequence_counts(self):
        one, other = Desk(()), Desk(())
        for desk, steps in ((one, (DOWN, UP)), (other, (UP, DOWN))):
            for step in steps:
                desk.put(0, step)
            desk.take(0)
            desk.take(0)
        self.assertEqual(one.chain(), other.chain())
        self.assertEqual(len(one), len(other))
        self.check(one, other, False)

    def test_refused_changes_do_not_count(self):
        one, other = Desk((DOWN,)), Desk((DOWN,))
        self.refuse(InvalidStep, one.take, 1)
        self.refuse(InvalidStep, one.put, 0, None)
        self.refuse(NothingToUndo, one.undo)
        self.check(one, other, True)

    def test_other_values(self):
        desk = Desk((DOWN,))
        for other in OTHER_KINDS + [0, (), (DOWN,), [(DOWN,)], "down 1", Desk, object()]:
            self.check(desk, other, False)

    def test_values_that_call_themselves_equal(self):
        class Any:
            def __eq__(self, other):
                return True

        self.assertIs(Desk(()) == Any(), False)


class SequencesTest(Case):
    """Long sequences of calls against a list of chains."""

    def run_one(self, rng, steps):
        desks, chains, undone = [Desk(()), Desk((DOWN,))], [[()], [(DOWN,)]], [[], []]
        for _ in range(60):
            one = rng.randrange(2)
            self.change(desks[one], chains[one], undone[one], rng, steps)
            for desk, gone in zip(desks, chains):
                self.assertEqual((desk.chain(), len(desk)), (gone[-1], len(gone) - 1))
            self.assertIs(desks[0] == desks[1], chains[0] == chains[1])

    def change(self, desk, gone, undone, rng, steps):
        now = gone[-1]
        word = rng.choice(["put", "put", "take", "undo", "redo"])
        if word == "undo":
            if len(gone) == 1:
                return self.refuse(NothingToUndo, desk.undo)
            self.assertIs(desk.undo(), not same(now, gone[-2]))
            return undone.append(gone.pop())
        if word == "redo":
            if not undone:
                return self.refuse(NothingToUndo, desk.redo)
            self.assertIs(desk.redo(), not same(now, undone[-1]))
            return gone.append(undone.pop())
        at = rng.randrange(-1, 6)
        if word == "put":
            step = rng.choice(steps)
            if not 0 <= at <= len(now):
                return self.refuse(InvalidStep, desk.put, at, step)
            if len(now) == 4:
                return self.refuse(TooMany, desk.put, at, step)
            later = now[:at] + (step,) + now[at:]
            self.assertIs(desk.put(at, step), not same(now, later))
        else:
            if not 0 <= at < len(now):
                return self.refuse(InvalidStep, desk.take, at)
            later = now[:at] + now[at + 1:]
            self.assertIs(desk.take(at), not same(now, later))
        undone.clear()
        return gone.append(later)

    def test_two_desks_in_turn(self):
        rng = random.Random(43)
        for _ in range(40):
            self.run_one(rng, SOME_STEPS)

    def test_two_desks_with_few_steps(self):
        rng = random.Random(47)
        for _ in range(40):
            self.run_one(rng, [DOWN, DOWN, NOTHING])


if __name__ == "__main__":
    unittest.main()
