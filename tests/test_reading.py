"""Points 16 to 18: logs read back, whole, since a moment, and from their ends."""

import unittest
from itertools import product
from math import prod

from logsapart.dials import Dial, logs_of, mark_of, who_last
from logsapart.errors import BadLogs, Refused
from logsapart.hands import Hands
from logsapart.logs import last_marks
from logsapart.reading import is_left, read_from, story_of, tail_of
from support import Raising, all_logs, all_stories, any_values, stories_up_to, telling_hands

SIX = Dial(Hands((2, 3, 6)))
DIALS = [Dial(hands) for hands in telling_hands(4)] + [Dial(Hands((4, 4, 4, 4))), Dial(Hands((7, 2, 5)))]
FEW = [Dial(Hands(marks)) for marks in ((2, 2), (2, 3), (2, 4), (3, 3), (2, 3, 6), (3, 3, 3), (4, 4, 4), (2, 4, 4))]


def laid_from(dial, last, story):
    """(logs, last marks) that a story leaves that begins with these last marks."""
    row = list(last)
    logs = [[] for _ in row]
    for hand in story:
        row[hand] = mark_of(dial, row, hand)
        logs[hand].append(row[hand])
    return tuple(map(tuple, logs)), tuple(row)


def moments(dial, length):
    """(story, moment, last marks of the moment, logs behind it) over all stories and moments."""
    for story in stories_up_to(dial.hands, length):
        for moment in range(len(story) + 1):
            last = last_marks(dial.hands, logs_of(dial, story[:moment]))
            yield story, moment, last, laid_from(dial, last, story[moment:])[0]


def plain_tail(story, kept):
    """The deeds that logs tell of which each hand kept so many last entries."""
    left = list(kept)
    told = []
    for hand in reversed(story):
        if 0 in left:
            break
        left[hand] -= 1
        told.insert(0, hand)
    return tuple(told)


class WholeLogs(Raising, unittest.TestCase):
    def test_read_back(self):
        for dial in DIALS:
            seen = set()
            for story in stories_up_to(dial.hands, 5):
                logs = logs_of(dial, story)
                self.assertNotIn(logs, seen)
                seen.add(logs)
                self.assertEqual(story, story_of(dial, [list(log) for log in logs]))
                self.assertIs(True, is_left(dial, logs))

    def test_left_just_if_some_story_leaves_them(self):
        for dial in FEW:
            left = {logs_of(dial, story) for story in stories_up_to(dial.hands, 4)}
            for logs in all_logs(dial.hands, 4):
                self.assertIs(logs in left, is_left(dial, logs))
                if logs not in left:
                    self.must_raise(Refused, logs, story_of, dial, logs)

    def test_empty(self):
        self.assertEqual(((), True), (story_of(SIX, ((), (), ())), is_left(SIX, [[], [], []])))

    def test_last_marks_in_no_arc_or_in_that_of_an_empty_log(self):
        wide = Dial(Hands((2, 4)))
        for dial, logs in ((wide, ((1,), (1,))), (SIX, ((), (0,), ())), (SIX, ((), (), (0,))), (wide, ((), (0,)))):
            self.must_raise(Refused, logs, story_of, dial, logs)
            self.assertIs(False, is_left(dial, logs))

    def test_to_the_limit(self):
        for marks in ((8,) * 8, (2, 2), (2, 3, 6), (11, 17, 43, 47, 49, 54)):
            dial = Dial(Hands(marks))
            story = tuple((3 * deed * deed + deed // 3) % len(marks) for deed in range(400))
            logs = logs_of(dial, story)
            self.assertEqual(story, story_of(dial, logs))
            self.assertTrue(is_left(dial, logs))
            self.assertEqual(plain_tail(story, [len(log) for log in logs]), tail_of(dial, logs))

    def test_what_is_passed_does_not_change(self):
        logs = [[0, 1], [2, 2], [5]]
        story_of(SIX, logs)
        tail_of(SIX, logs)
        read_from(SIX, [0, 0, 0], logs)
        self.assertEqual([[0, 1], [2, 2], [5]], logs)

    def test_wrong_logs(self):
        for value in any_values():
            if not isinstance(value, (list, tuple)) or len(value) != 3:
                for call in (story_of, is_left, tail_of):
                    self.must_raise(BadLogs, -1, call, SIX, value)
                self.must_raise(BadLogs, -1, read_from, SIX, (0, 0, 0), value)
        for call in (story_of, is_left, tail_of):
            self.must_raise(BadLogs, 1, call, SIX, ((0,), (3,), None))


class BeginningsGone(Raising, unittest.TestCase):
    def test_read_from_each_moment(self):
        for dial in FEW:
            for story, moment, last, logs in moments(dial, 5):
                self.assertEqual(story[moment:], read_from(dial, list(last), logs))

    def test_read_from_any_last_marks(self):
        for dial in (Dial(Hands((2, 2))), Dial(Hands((2, 4))), Dial(Hands((3, 3))), SIX):
            for last in product(*[range(k) for k in dial.hands.marks]):
                left = {}
                for story in stories_up_to(dial.hands, 3):
                    left[laid_from(dial, last, story)[0]] = story
                for logs in all_logs(dial.hands, 3):
                    if logs in left:
                        self.assertEqual(left[logs], read_from(dial, last, logs))
                    else:
                        self.must_raise(Refused, logs, read_from, dial, last, logs)

    def test_no_entries(self):
        for last in product(range(2), range(3), range(6)):
            self.assertEqual((), read_from(SIX, last, ((), [], ())))

    def test_whole_logs_are_read_from_zeros(self):
        for story in stories_up_to(SIX.hands, 4):
            self.assertEqual(story, read_from(SIX, (0, 0, 0), logs_of(SIX, story)))

    def test_wrong_last_marks_come_first(self):
        for value in any_values() + [(2, 0, 0), (0, 0), (0, 0, True)]:
            self.must_raise(Refused, value, read_from, SIX, value, None)
        self.must_raise(BadLogs, 0, read_from, SIX, (0, 0, 0), ((2,), (), ()))

    def test_tails_of_all_cuts(self):
        for dial in FEW:
            for story in all_stories(dial.hands, 5):
                logs = logs_of(dial, story)
                for kept in product(*[range(len(log) + 1) for log in logs]):
                    cut = tuple(log[len(log) - many:] for log, many in zip(logs, kept))
                    self.assertEqual(plain_tail(story, kept), tail_of(dial, cut))

    def test_tails_of_any_logs(self):
        for dial in (Dial(Hands((2, 4))), Dial(Hands((3, 4))), Dial(Hands((2, 2))), Dial(Hands((3, 3, 6)))):
            for logs in all_logs(dial.hands, 4):
                self.check_tail(dial, logs)

    def check_tail(self, dial, logs):
        rows = [list(log) for log in logs]
        told = []
        while all(rows):
            hand = who_last(dial, [row[-1] for row in rows])
            if hand is None:
                self.must_raise(Refused, logs, tail_of, dial, logs)
                return
            rows[hand].pop()
            told.insert(0, hand)
        self.assertEqual(tuple(told), tail_of(dial, logs))

    def test_tail_edges(self):
        dial = Dial(Hands((2, 4)))
        self.assertEqual((), tail_of(dial, ((), ())))
        self.assertEqual((), tail_of(dial, ((1,), ())))
        self.assertEqual((), tail_of(dial, ((), (1, 1))))
        logs = [[1], [1]]
        self.must_raise(Refused, logs, tail_of, dial, logs)


class WhatHolds(unittest.TestCase):
    def test_marks_may_name_the_hand_ahead(self):
        for many, length in ((2, 8), (3, 6), (4, 5)):
            hands = Hands((many,) * many)
            seen = set()
            for story in stories_up_to(hands, length):
                logs = [[] for _ in range(many)]
                for ahead, hand in zip((0,) + story, story):
                    logs[hand].append(ahead)
                seen.add(tuple(map(tuple, logs)))
            self.assertEqual(len(stories_up_to(hands, length)), len(seen))

    def test_share_of_one_how_many_logs_tell_a_row(self):
        for marks, many in (((2, 2), 3), ((3, 3, 3), 2), ((2, 4, 4), 2), ((2, 3, 6), 1), ((4, 4, 4, 4), 1)):
            dial = Dial(Hands(marks))
            tails = {}
            for logs in product(*[list(product(range(k), repeat=many)) for k in marks]):
                told = tail_of(dial, logs)
                for deeds in range(many + 1):
                    row = told[len(told) - deeds:]
                    tails[row] = tails.get(row, 0) + 1
            for row in stories_up_to(dial.hands, many):
                just = prod(k ** (many - row.count(hand)) for hand, k in enumerate(marks))
                self.assertEqual(just, tails[row])


if __name__ == "__main__":
    unittest.main()
