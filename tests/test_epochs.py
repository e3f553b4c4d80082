"""Point 48: crowds, rolls with their epochs, where epochs begin, and runs that are too full."""

import random
import unittest
from fractions import Fraction
from itertools import product
from math import lcm

from logsapart.dials import Dial, logs_of
from logsapart.epochs import Crowd, Roll, check_guests, fewest_epochs, full_runs, need_guest, runs_hold
from logsapart.errors import BadHands, BadStory, NoHand, Refused
from logsapart.hands import Hands
from support import Raising, any_values, fraction_share, is_deep_tuple, telling_hands

FOUR = Crowd([2, 3, 6, 2])


def crowds():
    source = random.Random(70)
    told = [FOUR, Crowd([1]), Crowd((60,)), Crowd((1, 1, 1)), Crowd((2, 2, 2)), Crowd(range_of(1, 41)), Crowd((60,) * 40)]
    for many in (2, 3, 4, 5, 8, 40):
        told.extend(Crowd([source.choice((1, 2, 3, 4, 5, 6, 12, 59, 60)) for _ in range(many)]) for _ in range(4))
    return told


def range_of(first, behind):
    return list(range(first, behind))


def random_story(source, crowd, length):
    """A story of guests of whom some act often."""
    few = [source.randrange(crowd.many) for _ in range(4)]
    return [source.choice(few) if source.randrange(3) else source.randrange(crowd.many) for _ in range(length)]


class PlainRoll:
    """The thing by the words of the point: arcs as sets of places, each mark found by trying all of the guest."""

    def __init__(self, crowd, epoch=0):
        self.marks, self.size, self.epoch, self.there, self.last = crowd.marks, lcm(*crowd.marks), epoch, [], []

    def arc(self, rank):
        first = sum(self.size // self.marks[guest] for guest in self.there[:rank])
        return first, first + self.size // self.marks[self.there[rank]]

    def place(self):
        return sum(m * (self.size // self.marks[g]) for m, g in zip(self.last, self.there)) % self.size

    def act(self, guest):
        if guest not in self.there:
            if sum((Fraction(1, self.marks[g]) for g in [*self.there, guest]), Fraction(0)) > 1:
                self.epoch, self.there, self.last = self.epoch + 1, [], []
            self.there.append(guest)
            self.last.append(0)
        rank = self.there.index(guest)
        right = []
        for mark in range(self.marks[guest]):
            self.last[rank] = mark
            first, behind = self.arc(rank)
            if first <= self.place() < behind:
                right.append(mark)
        (mark,) = right
        self.last[rank] = mark
        return self.epoch, rank, mark


def state(roll):
    return roll.crowd, roll.epoch, roll.there, roll.last


class Crowds(Raising, unittest.TestCase):
    def test_attributes(self):
        for marks in ([1], [60], [2, 3, 6, 2], [60] * 40, range_of(1, 41)):
            crowd = Crowd(marks)
            self.assertEqual((tuple(marks), len(marks), lcm(*marks)), (crowd.marks, crowd.many, crowd.size))
            self.assertIs(tuple, type(crowd.marks))
        self.assertEqual(1, Crowd(marks=(4,)).many)
        self.assertEqual(lcm(*range(1, 61)), Crowd(range_of(21, 61)).size)

    def test_equality(self):
        self.assertTrue(Crowd([2, 3]) == Crowd((2, 3)))
        self.assertFalse(Crowd([2, 3]) != Crowd((2, 3)))
        self.assertFalse(Crowd((2, 3)) == Crowd((3, 2)))
        self.assertFalse(Crowd((2, 3)) == Hands((2, 3)))
        self.assertFalse(Hands((2, 3)) == Crowd((2, 3)))
        for value in any_values() + [(2, 3)]:
            self.assertFalse(Crowd((2, 2)) == value)

    def test_wrong_marks(self):
        for value in any_values():
            if not isinstance(value, (list, tuple)) or not 1 <= len(value) <= 40:
                self.must_raise(BadHands, -1, Crowd, value)
            if value not in (0, 1):
                self.must_raise(BadHands, 1, Crowd, [60, value, None])
                self.must_raise(BadHands, 0, Crowd, (value,))
        for value in (0, 61, True, -1, 10 ** 30):
            self.must_raise(BadHands, 39, Crowd, [1] * 39 + [value])
        self.must_raise(BadHands, -1, Crowd, [1] * 41)
        self.must_raise(BadHands, -1, Crowd, ())

    def test_guests(self):
        for crowd in crowds():
            for guest in range(crowd.many):
                self.assertEqual(guest, need_guest(crowd, guest))
            for value in any_values() + [crowd.many, 10 ** 30]:
                self.must_raise(NoHand, value, need_guest, crowd, value)
        self.assertEqual(3, need_guest(crowd=FOUR, guest=3))

    def test_stories_of_guests(self):
        self.assertEqual((0, 3, 3), check_guests(FOUR, [0, 3, 3]))
        self.assertEqual((), check_guests(crowd=FOUR, story=()))
        self.assertEqual((3,) * 10000, check_guests(FOUR, [3] * 10000))
        for call in (check_guests, fewest_epochs, full_runs, lambda crowd, story: runs_hold(crowd, story, None)):
            for value in any_values() + [4]:
                self.must_raise(BadStory, 1, call, FOUR, (0, value, None))
                if not isinstance(value, (list, tuple)) or len(value) > 10000:
                    self.must_raise(BadStory, -1, call, FOUR, value)
            self.must_raise(BadStory, -1, call, FOUR, [0] * 10001)


class Rolls(Raising, unittest.TestCase):
    def test_begin(self):
        roll = Roll(FOUR)
        self.assertEqual((FOUR, 0, (), ()), state(roll))
        self.assertIsNone(roll.who())
        roll = Roll(crowd=FOUR, epoch=10 ** 6)
        self.assertEqual((FOUR, 10 ** 6, (), ()), state(roll))
        self.assertEqual((10 ** 6, 0, 0), roll.act(2))
        for value in any_values():
            self.must_raise(Refused, value, Roll, FOUR, value)

    def test_deed_by_deed(self):
        source = random.Random(71)
        most = 0
        for crowd in crowds():
            epoch = source.choice((0, 1, 999999))
            roll, plain = Roll(crowd, epoch), PlainRoll(crowd, epoch)
            for guest in random_story(source, crowd, 60):
                self.assertEqual(plain.act(guest), roll.act(guest))
                self.assertEqual((plain.epoch, tuple(plain.there), tuple(plain.last)), state(roll)[1:])
                self.assertTrue(is_deep_tuple((roll.there, roll.last)))
                self.assertEqual(guest, roll.who())
            most = max(most, roll.epoch - epoch)
        self.assertGreater(most, 20)

    def test_all_short_stories(self):
        for marks in ((2, 2), (1, 3), (2, 3, 4), (1, 1, 2), (3, 3, 2)):
            crowd = Crowd(marks)
            for story in product(range(crowd.many), repeat=5):
                roll, plain = Roll(crowd), PlainRoll(crowd)
                self.assertEqual([plain.act(guest) for guest in story], [roll.act(guest) for guest in story])

    def test_who_fits_needs_no_epoch(self):
        # Guests that come in the order of hands leave the marks of these hands' dial.
        for hands in telling_hands(4, (2, 3)):
            for story in product(range(hands.many), repeat=4):
                first = tuple(range(hands.many))
                roll = Roll(Crowd(hands.marks))
                logs = [[] for _ in first]
                for guest in first + story:
                    epoch, rank, mark = roll.act(guest)
                    self.assertEqual((0, guest), (epoch, rank))
                    logs[guest].append(mark)
                self.assertEqual(logs_of(Dial(hands), first + story), tuple(map(tuple, logs)))

    def test_one_mark(self):
        roll = Roll(Crowd((1, 2, 1)))
        self.assertEqual([(0, 0, 0), (0, 0, 0), (1, 0, 0), (1, 0, 0), (2, 0, 0), (3, 0, 0)],
                         [roll.act(guest) for guest in (0, 0, 1, 1, 2, 0)])

    def test_wrong_guests_change_nothing(self):
        roll = Roll(FOUR)
        for guest in (0, 1, 3):
            roll.act(guest=guest)
            before = state(roll)
            for value in any_values() + [4, 10 ** 30]:
                self.must_raise(NoHand, value, roll.act, value)
            self.assertEqual(before, state(roll))


def share_of(crowd, story):
    return fraction_share([crowd.marks[guest] for guest in set(story)])


def cuts_of(crowd, story):
    """All ways to cut a story into parts with a share of at most 1 each, as the places where they begin."""
    if not story:
        return [()]
    found = []
    for inner in product((False, True), repeat=len(story) - 1):
        begins = (0, *[at + 1 for at, cut in enumerate(inner) if cut])
        ends = (*begins[1:], len(story))
        if all(share_of(crowd, story[first:end]) <= 1 for first, end in zip(begins, ends)):
            found.append(begins)
    return found


def plain_hold(crowd, story, runs):
    for at, (first, behind) in enumerate(runs):
        if behind > len(story) or share_of(crowd, story[first:behind]) <= 1:
            return False
        if at > 0 and first < runs[at - 1][1] - 1:
            return False
    return True


class Epochs(Raising, unittest.TestCase):
    def test_by_all_cuts(self):
        source = random.Random(72)
        counts = set()
        for crowd in crowds():
            for length in range(9):
                story = random_story(source, crowd, length)
                told = fewest_epochs(crowd, story)
                cuts = cuts_of(crowd, story)
                fewest = min(len(cut) for cut in cuts)
                # Each as late as it can, one after another: the greatest of those with the fewest parts.
                self.assertEqual(max(cut for cut in cuts if len(cut) == fewest), told)
                counts.add(fewest)
        self.assertTrue({0, 1, 2, 3, 4} <= counts)

    def test_a_rolls_epochs_begin_there(self):
        source = random.Random(73)
        for crowd in crowds():
            story = random_story(source, crowd, 80)
            roll = Roll(crowd)
            epochs = [roll.act(guest)[0] for guest in story]
            self.assertEqual(tuple(epochs.index(epoch) for epoch in range(epochs[-1] + 1)), fewest_epochs(crowd, story))

    def test_runs(self):
        source = random.Random(74)
        for crowd in crowds():
            for length in (0, 1, 5, 50):
                story = random_story(source, crowd, length)
                begins = fewest_epochs(crowd, story)
                runs = full_runs(crowd, story)
                self.assertEqual(tuple((one, other + 1) for one, other in zip(begins, begins[1:])), runs)
                self.assertEqual(max(len(begins) - 1, 0), len(runs))
                self.assertIs(True, runs_hold(crowd, story, runs))
                self.assertIs(True, runs_hold(crowd, story, [list(run) for run in runs]))
                self.assertTrue(is_deep_tuple(runs))
        self.assertEqual((), full_runs(FOUR, ()))
        self.assertEqual(((0, 3),), full_runs(crowd=FOUR, story=[0, 1, 3, 1, 3, 2]))

    def test_runs_by_each_clause(self):
        story = (0, 1, 3, 1, 3, 2, 0, 3)
        held = 0
        for first, behind in product(range(10), repeat=2):
            plain = plain_hold(FOUR, story, [(first, behind)])
            self.assertIs(plain, runs_hold(FOUR, story, ((first, behind),)))
            held += plain
        self.assertGreater(held, 5)
        source = random.Random(75)
        held = 0
        for crowd in crowds():
            story = random_story(source, crowd, 12)
            for _ in range(60):
                runs = [sorted((source.randrange(14), source.randrange(14))) for _ in range(source.randrange(4))]
                runs = sorted(runs) if source.randrange(2) else runs
                plain = plain_hold(crowd, story, runs)
                self.assertIs(plain, runs_hold(crowd, story, runs))
                held += plain and len(runs) > 1
                if plain and runs:
                    # As few epochs as runs are not enough.
                    self.assertGreater(len(fewest_epochs(crowd, story)), len(runs))
        self.assertGreater(held, 5)

    def test_runs_that_meet(self):
        crowd, story = Crowd((1, 1)), (0, 1, 0, 1)
        self.assertTrue(runs_hold(crowd, story, ((0, 2), (1, 3), (2, 4))))
        self.assertFalse(runs_hold(crowd, story, ((0, 3), (1, 3))))
        self.assertTrue(runs_hold(crowd, story, ((0, 3), (2, 4))))
        self.assertFalse(runs_hold(crowd, story, ((2, 4), (0, 2))))
        self.assertFalse(runs_hold(crowd, story, ((2, 5),)))
        self.assertFalse(runs_hold(crowd, story, ((3, 4),)))
        self.assertFalse(runs_hold(crowd, story, ((4, 2),)))
        self.assertTrue(runs_hold(crowd=crowd, story=story, value=()))
        self.assertTrue(runs_hold(crowd, (), []))

    def test_values_that_are_no_runs(self):
        story = (0, 1, 3, 1)
        for value in any_values():
            if value not in ((), []):
                self.assertIs(False, runs_hold(FOUR, story, value))
            self.assertIs(False, runs_hold(FOUR, story, ((0, 3), value)))
            self.assertIs(False, runs_hold(FOUR, story, ((value, 3),)))
            self.assertIs(False, runs_hold(FOUR, story, ((0, value),)))
            self.assertIs(False, runs_hold(FOUR, story, ((0, 3, value),)))
        self.assertIs(False, runs_hold(FOUR, story, ((False, 3),)))
        self.assertIs(False, runs_hold(FOUR, story, ((0, 10 ** 30),)))

    def test_to_the_limits(self):
        source = random.Random(76)
        crowd = Crowd([source.randrange(30, 61) for _ in range(40)])
        story = random_story(source, crowd, 400)
        plain, roll = PlainRoll(crowd), Roll(crowd)
        for guest in story:
            self.assertEqual(plain.act(guest), roll.act(guest))
        self.assertTrue(runs_hold(crowd, story, full_runs(crowd, story)))
        pairs = Crowd((2,) * 40)
        story = [guest for guest in range(40) for _ in range(10)]
        self.assertEqual(tuple(range(0, 400, 20)), fewest_epochs(pairs, story))
        self.assertEqual(tuple(range(40)), fewest_epochs(Crowd((1,) * 40), range_of(0, 40)))


if __name__ == "__main__":
    unittest.main()
