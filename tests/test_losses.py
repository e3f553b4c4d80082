"""Points 50 to 53: stories that fit logs whose newest entries are gone, their order, and losses noticed."""

import random
import unittest
from itertools import permutations
from math import prod

from logsapart.dials import Dial, logs_of
from logsapart.errors import BadLogs, BadStory, NoHand, Refused
from logsapart.hands import Hands
from logsapart.losses import fit_number, fit_numbers, fit_place, fit_story, noticed_tails
from logsapart.reading import is_left, story_of
from support import Raising, any_values, fraction_share, is_deep_tuple, not_of_length, telling_hands

PAIR = Dial(Hands((2, 2)))
SIX = Dial(Hands((2, 3, 6)))


def stories_with(counts):
    return sorted(set(permutations([hand for hand, count in enumerate(counts) for _ in range(count)])))


def lost_row(logs, lost, story):
    """The lost marks in the order in which they are needed, by the words of point 51."""
    kept = [len(log) - gone for log, gone in zip(logs, lost)]
    rows = [list(log) for log in logs]
    row = [log[-1] for log, gone in zip(logs, lost) if gone > 0]
    for hand in reversed(story):
        rows[hand].pop()
        if len(rows[hand]) > kept[hand]:
            row.append(rows[hand][-1])
    return tuple(row)


def plain_fits(dial, left, lost):
    """The stories that fit, in their order, out of all stories of the whole logs' lengths."""
    counts = [len(log) + gone for log, gone in zip(left, lost)]
    found = []
    for story in stories_with(counts):
        logs = logs_of(dial, story)
        if all(log[:len(kept)] == tuple(kept) for log, kept in zip(logs, left)):
            found.append((lost_row(logs, lost, story), story))
    return [story for _, story in sorted(found)]


def cases(seed, many, entries=7):
    """Dials with logs left and numbers lost: of stories, with wrong numbers, and of any marks."""
    source = random.Random(seed)
    dials = [Dial(hands) for hands in telling_hands(6, (2, 3)) + [Hands((4, 4, 4, 4)), Hands((2, 6, 6, 60)), Hands((3, 5))]]
    told = []
    while len(told) < many:
        dial = source.choice(dials)
        hands = dial.hands
        kind = source.randrange(4)
        logs = logs_of(dial, [source.randrange(hands.many) for _ in range(source.randrange(entries + 1))])
        if kind == 0:
            logs = tuple(tuple(source.randrange(k) for _ in range(source.randrange(3))) for k in hands.marks)
        lost = [source.randrange(len(log) + 1) for log in logs]
        left = tuple(log[:len(log) - gone] for log, gone in zip(logs, lost))
        if kind == 1:
            lost = [source.randrange(3) for _ in logs]
        if sum(map(len, left)) + sum(lost) <= entries:
            told.append((dial, left, tuple(lost)))
    return told


class Fitting(Raising, unittest.TestCase):
    def test_number_and_order_by_all_stories(self):
        several, none = 0, 0
        for dial, left, lost in cases(90, 350):
            plain = plain_fits(dial, left, lost)
            self.assertEqual(len(plain), fit_number(dial, [list(log) for log in left], list(lost)))
            self.assertLessEqual(len(plain), prod(k ** gone for k, gone in zip(dial.hands.marks, lost)))
            for number, story in enumerate(plain):
                told = fit_story(dial, [list(log) for log in left], list(lost), number)
                self.assertEqual(story, told)
                self.assertIs(tuple, type(told))
                self.assertEqual(number, fit_place(dial, left, lost, list(story)))
            self.must_raise(Refused, len(plain), fit_story, dial, left, lost, len(plain))
            several += len(plain) > 3
            none += not plain
        self.assertGreater(several, 50)
        self.assertGreater(none, 20)

    def test_stories_that_do_not_fit(self):
        source = random.Random(91)
        fitting = 0
        for dial, left, lost in cases(92, 200, 6):
            plain = plain_fits(dial, left, lost)
            counts = [len(log) + gone for log, gone in zip(left, lost)]
            for story in stories_with(counts)[:20]:
                place = plain.index(story) if story in plain else None
                self.assertEqual(place, fit_place(dial, left, lost, story))
                fitting += place is not None
            for story in plain[:2]:
                # A deed more or less is one too many or too few.
                self.assertIsNone(fit_place(dial, left, lost, story + (source.randrange(dial.hands.many),)))
                if story:
                    self.assertIsNone(fit_place(dial, left, lost, story[:-1]))
        self.assertGreater(fitting, 100)
        self.assertIsNone(fit_place(PAIR, ((), ()), (0, 0), (0,) * 10000))

    def test_no_entry_lost(self):
        for dial, left, _ in cases(93, 80):
            lost = (0,) * dial.hands.many
            if is_left(dial, left):
                story = story_of(dial, left)
                self.assertEqual((1, story, 0), (
                    fit_number(dial, left, lost), fit_story(dial, left, lost, 0), fit_place(dial, left, lost, story)))
            else:
                self.assertEqual(0, fit_number(dial, left, lost))
                self.must_raise(Refused, 0, fit_story, dial, left, lost, 0)

    def test_all_lost(self):
        # Of hands of a share of 1 each number of lost marks may be read back; here up to the begin.
        self.assertEqual((1, ()), (fit_number(PAIR, ((), ()), (0, 0)), fit_story(PAIR, ((), ()), (0, 0), 0)))
        self.assertEqual(6, fit_number(PAIR, ((), ()), (2, 2)))
        self.assertEqual(924, fit_number(PAIR, ((), ()), (6, 6)))
        told = [fit_story(PAIR, ((), ()), (2, 2), number) for number in range(6)]
        self.assertEqual(plain_fits(PAIR, ((), ()), (2, 2)), told)

    def test_12_lost_and_one_more(self):
        for lost in ((12, 0), (0, 12), (6, 6), (1, 11)):
            number = fit_number(PAIR, ((0,), (1,)), lost)
            self.assertGreater(number, 0)
            for at in {0, number // 2, number - 1}:
                self.assertEqual(at, fit_place(PAIR, ((0,), (1,)), lost, fit_story(PAIR, ((0,), (1,)), lost, at)))
        for lost in ((13, 0), (12, 1), (7, 6), (10 ** 30, 0)):
            self.must_raise(Refused, lost, fit_number, PAIR, ((0,), (1,)), lost)
            self.must_raise(Refused, lost, fit_story, PAIR, ((0,), (1,)), lost, None)
            self.must_raise(Refused, lost, fit_place, PAIR, ((0,), (1,)), lost, None)

    def test_wrong_values(self):
        left = ((0,), (1,))
        calls = ((fit_number,), (fit_story, None), (fit_place, None))
        for call, *rest in calls:
            for value in not_of_length(2):
                self.must_raise(BadLogs, -1, call, PAIR, value, None, *rest)
                self.must_raise(Refused, value, call, PAIR, left, value, *rest)
            self.must_raise(BadLogs, 1, call, PAIR, ((0,), (2,)), None, *rest)
            for value in any_values() + [13]:
                lost = (0, value)
                self.must_raise(Refused, lost, call, PAIR, left, lost, *rest)
        for value in any_values() + [3, 10 ** 30]:
            self.must_raise(Refused, value, fit_story, PAIR, left, (2, 0), value)
            self.must_raise(BadStory, 1, fit_place, PAIR, left, (2, 0), (0, value if value != 3 else 2, None))
        self.must_raise(BadStory, -1, fit_place, PAIR, left, (2, 0), None)
        self.assertEqual(3, fit_number(dial=PAIR, left=left, lost=[2, 0]))
        self.assertEqual((0, 0, 1, 0), fit_story(dial=PAIR, left=left, lost=[2, 0], number=1))
        self.assertEqual(1, fit_place(dial=PAIR, left=left, lost=[2, 0], story=[0, 0, 1, 0]))

    def check_far(self, marks, length, lost, seed):
        source = random.Random(seed)
        self.check_long(marks, tuple(source.randrange(len(marks)) for _ in range(length)), lost)

    def check_long(self, marks, story, lost):
        """A long story's logs: its number leads back to it, and numbers go up with the rows of lost marks."""
        dial = Dial(Hands(marks))
        logs = logs_of(dial, story)
        left = tuple(log[:len(log) - gone] for log, gone in zip(logs, lost))
        number = fit_number(dial, left, lost)
        place = fit_place(dial, left, lost, story)
        self.assertEqual(story, fit_story(dial, left, lost, place))
        rows = []
        for at in sorted({0, place, number - 1}):
            told = fit_story(dial, left, lost, at)
            rows.append(lost_row(logs_of(dial, told), lost, told))
            self.assertTrue(all(log[:len(kept)] == kept for log, kept in zip(logs_of(dial, told), left)))
        self.assertEqual(sorted(set(rows)), rows)

    def test_to_the_limits(self):
        self.check_far((2, 2), 112, (6, 6), 1)
        self.check_far((2, 2), 112, (12, 0), 2)
        self.check_far((2, 3, 6), 112, (4, 4, 4), 3)
        self.check_far((60, 60), 112, (6, 6), 4)
        self.check_far((59, 60), 112, (6, 6), 5)
        self.check_far((3, 3, 3), 206, (2, 2, 2), 6)
        self.check_far((4, 4, 4, 4), 112, (3, 3, 3, 3), 7)
        self.check_far((8,) * 8, 206, (2, 2, 2, 0, 0, 0, 0, 0), 8)
        self.check_far((2, 3, 60, 60), 112, (0, 0, 6, 6), 9)


    def test_hands_that_act_many_times_in_a_row(self):
        # From the begin on there are far too many ways, though few from the end back; or the other way round.
        for marks, lost in (((8,) * 8, (4, 4, 4, 0, 0, 0, 0, 0)), ((60,) * 8, (6, 6, 0, 0, 0, 0, 0, 0)), ((2, 3, 6), (4, 4, 4))):
            story = tuple(at * len(marks) // 112 for at in range(112))
            self.check_long(marks, story, lost)
            self.check_long(marks, story[::-1], lost)


class Numbers(Raising, unittest.TestCase):
    def test_by_each_number_of_lost_ones(self):
        source = random.Random(94)
        for dial, left, _ in cases(95, 120, 6):
            hand = source.randrange(dial.hands.many)
            most = source.randrange(13)
            told = fit_numbers(dial, [list(log) for log in left], hand, most)
            self.assertIs(tuple, type(told))
            plain = []
            for gone in range(most + 1):
                lost = tuple(gone if at == hand else 0 for at in range(dial.hands.many))
                plain.append(fit_number(dial, left, lost))
                if sum(map(len, left)) + gone <= 7:
                    self.assertEqual(len(plain_fits(dial, left, lost)), plain[-1])
            self.assertEqual(tuple(plain), told)

    def test_wrong_values(self):
        left = ((0,), (1,))
        for value in not_of_length(2):
            self.must_raise(BadLogs, -1, fit_numbers, PAIR, value, None, None)
        for value in any_values() + [2]:
            self.must_raise(NoHand, value, fit_numbers, PAIR, left, value, None)
        for value in any_values() + [13, 10 ** 30]:
            self.must_raise(Refused, value, fit_numbers, PAIR, left, 0, value)
        self.assertEqual((1,), fit_numbers(dial=PAIR, left=left, hand=1, most=0))
        self.assertEqual(13, len(fit_numbers(PAIR, left, 1, 12)))

    def test_many_entries(self):
        source = random.Random(96)
        for marks in ((2, 2), (2, 3, 6), (8,) * 8, (60, 60)):
            dial = Dial(Hands(marks))
            story = [source.randrange(len(marks)) for _ in range(106)]
            logs = logs_of(dial, story)
            left = (logs[0][:-4],) + logs[1:]
            told = fit_numbers(dial, left, 0, 12)
            self.assertEqual(13, len(told))
            self.assertGreater(told[4], 0)
            self.assertEqual(fit_number(dial, left, (4,) + (0,) * (len(marks) - 1)), told[4])


class Noticed(Raising, unittest.TestCase):
    def test_by_all_stories_with_so_many_deeds(self):
        noticed, unnoticed = 0, 0
        for dial, logs, _ in cases(97, 150):
            for hand in range(dial.hands.many):
                told = noticed_tails(dial, [list(log) for log in logs], hand)
                self.assertIs(tuple, type(told))
                plain = []
                for gone in range(1, len(logs[hand]) + 1):
                    left = tuple(log[:len(log) - gone] if at == hand else log for at, log in enumerate(logs))
                    counts = [len(log) for log in left]
                    if not any(logs_of(dial, story) == left for story in stories_with(counts)):
                        plain.append(gone)
                self.assertEqual(tuple(plain), told)
                noticed += len(told)
                unnoticed += len(logs[hand]) - len(told)
        self.assertGreater(min(noticed, unnoticed), 30)

    def test_wrong_values(self):
        for value in not_of_length(2):
            self.must_raise(BadLogs, -1, noticed_tails, PAIR, value, None)
        self.must_raise(BadLogs, 0, noticed_tails, PAIR, ((2,), None), None)
        for value in any_values() + [2]:
            self.must_raise(NoHand, value, noticed_tails, PAIR, ((0,), (1,)), value)
        self.assertEqual((1,), noticed_tails(dial=PAIR, logs=((0, 1, 1), (1,)), hand=1))
        self.assertEqual((), noticed_tails(PAIR, ((), (1,)), 0))

    def test_1000_entries(self):
        source = random.Random(98)
        for marks in ((2, 2), (2, 3, 6), (8,) * 8, (59, 60)):
            dial = Dial(Hands(marks))
            logs = logs_of(dial, [source.randrange(len(marks)) for _ in range(1000)])
            told = noticed_tails(dial, logs, 0)
            self.assertEqual(sorted(set(told)), list(told))
            for gone in (1, 2, len(logs[0]) // 2, len(logs[0])):
                left = (logs[0][:len(logs[0]) - gone], *logs[1:])
                self.assertEqual(is_left(dial, left), gone not in told)
        self.assertEqual((), noticed_tails(PAIR, logs_of(PAIR, (0,) * 1000), 0))

    def test_share_below_1(self):
        # There some last marks tell nobody: that, too, is noticed.
        dial = Dial(Hands((2, 4)))
        self.assertLess(fraction_share((2, 4)), 1)
        found = 0
        for length in range(1, 7):
            for number in range(2 ** length):
                story = [number >> at & 1 for at in range(length)]
                logs = logs_of(dial, story)
                for hand in (0, 1):
                    told = noticed_tails(dial, logs, hand)
                    found += len(told)
                    for gone in range(1, len(logs[hand]) + 1):
                        left = list(logs)
                        left[hand] = logs[hand][:len(logs[hand]) - gone]
                        self.assertEqual(gone in told, not is_left(dial, left))
        self.assertGreater(found, 50)
        self.assertTrue(is_deep_tuple(noticed_tails(dial, ((0,), ()), 0)))


if __name__ == "__main__":
    unittest.main()
