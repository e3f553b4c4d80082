"""Points 6 and 7: logs, and what is told of them."""

import random
import unittest

from logsapart.errors import BadLogs, BadStory, NoHand, Refused
from logsapart.hands import Hands
from logsapart.logs import check_logs, laid_logs, last_marks, marks_along, story_counts, struck_logs
from support import Raising, any_values, is_deep_tuple, small_hands, stories_up_to

THREE = Hands((2, 3, 6))


def some_marks(hands, story, seed):
    source = random.Random(seed)
    return [source.randrange(hands.marks[hand]) for hand in story]


class CheckingLogs(Raising, unittest.TestCase):
    def test_right_logs(self):
        self.assertEqual(((), (), ()), check_logs(THREE, [[], (), []]))
        self.assertEqual(((0, 1), (2,), (5,)), check_logs(THREE, [[0, 1], (2,), [5]]))
        self.assertEqual(((1,) * 10000, (), ()), check_logs(THREE, ([1] * 10000, [], [])))
        self.assertTrue(is_deep_tuple(check_logs(THREE, [[0], [1], [2]])))

    def test_no_sequence_of_as_many(self):
        for value in any_values():
            if not isinstance(value, (list, tuple)) or len(value) != 3:
                for call in (check_logs, last_marks):
                    self.must_raise(BadLogs, -1, call, THREE, value)
        self.must_raise(BadLogs, -1, check_logs, THREE, ((0,), (1,)))
        self.must_raise(BadLogs, -1, check_logs, THREE, ((0,), (1,), (5,), ()))

    def test_first_wrong_log(self):
        for wrong in (None, 0, True, "0", THREE, (-1,), (None,), [True], [0, "1"], ((0,),), [0] * 10001, (0, 6), [THREE]):
            for at in range(3):
                logs = [[0], (1,), []]
                logs[at] = wrong
                self.must_raise(BadLogs, at, check_logs, THREE, logs)
                self.must_raise(BadLogs, at, last_marks, THREE, logs[:at + 1] + [None] * (2 - at))

    def test_marks_go_to_those_of_their_hand(self):
        self.must_raise(BadLogs, 0, check_logs, THREE, ((2,), (), ()))
        self.must_raise(BadLogs, 1, check_logs, THREE, ((1,), (3,), ()))
        self.must_raise(BadLogs, 2, check_logs, THREE, ((1,), (2,), (6,)))

    def test_logs_may_be_changed_afterwards(self):
        logs = [[0], [1], [2]]
        checked = check_logs(THREE, logs)
        logs[0].append(1)
        logs[1] = None
        self.assertEqual(((0,), (1,), (2,)), checked)

    def test_last_marks(self):
        self.assertEqual((0, 0, 0), last_marks(THREE, ((), [], ())))
        self.assertEqual((1, 0, 3), last_marks(hands=THREE, logs=[[0, 1], (), (5, 3)]))


class StoriesAndLogs(Raising, unittest.TestCase):
    def test_counts(self):
        self.assertEqual((0, 0, 0), story_counts(THREE, ()))
        for hands in small_hands(2):
            for story in stories_up_to(hands, 4):
                self.assertEqual(tuple(map(story.count, range(hands.many))), story_counts(hands, list(story)))
        self.must_raise(BadStory, 1, story_counts, THREE, (0, 3))
        self.must_raise(BadStory, -1, story_counts, THREE, "01")

    def test_laid_and_told_along(self):
        for hands in small_hands(3):
            for story in stories_up_to(hands, 4):
                marks = some_marks(hands, story, len(story))
                logs = laid_logs(hands, list(story), marks)
                plain = tuple(
                    tuple(mark for hand, mark in zip(story, marks) if hand == each) for each in range(hands.many)
                )
                self.assertEqual(plain, logs)
                self.assertTrue(is_deep_tuple(logs))
                self.assertEqual(tuple(marks), marks_along(hands, story, logs))

    def test_another_story_of_the_same_counts(self):
        logs = ((1,), (), (5, 0, 3))
        self.assertEqual((5, 0, 3, 1), marks_along(THREE, (2, 2, 2, 0), logs))
        self.assertEqual((5, 0, 1, 3), marks_along(THREE, [2, 2, 0, 2], [[1], [], [5, 0, 3]]))

    def test_long_stories(self):
        story = [0, 1] * 5000
        logs = laid_logs(Hands((2, 2)), story, [1] * 10000)
        self.assertEqual(((1,) * 5000, (1,) * 5000), logs)
        self.assertEqual((1,) * 10000, marks_along(Hands((2, 2)), story, logs))
        self.must_raise(BadStory, -1, laid_logs, Hands((2, 2)), story + [0], [1] * 10001)

    def test_wrong_marks(self):
        for value in any_values():
            self.must_raise(Refused, value, laid_logs, THREE, (0, 1, 2), value)
        for marks in ([0, 0], [0, 0, 0, 0], [2, 0, 0], [0, 3, 0], [0, 0, 6], [0, 0, -1], [0, True, 0], [0, 0, None]):
            self.must_raise(Refused, marks, laid_logs, THREE, (0, 1, 2), marks)
        wrong = [0]
        self.must_raise(Refused, wrong, laid_logs, THREE, (), wrong)
        self.must_raise(BadStory, 1, laid_logs, THREE, (0, 3), None)

    def test_logs_of_other_lengths(self):
        for logs in (((0,), (), ()), ((), (0,), ()), ((0,), (0,), (0,)), ((0, 0), (0,), ())):
            self.must_raise(Refused, logs, marks_along, THREE, (0, 1), logs)
        self.must_raise(BadStory, 0, marks_along, THREE, (9,), None)
        self.must_raise(BadLogs, -1, marks_along, THREE, (0, 1), None)
        self.must_raise(BadLogs, 2, marks_along, THREE, (0, 1), ((0,), (0, 0), (9,)))
        self.assertEqual((), marks_along(THREE, (), ((), (), ())))

    def test_struck_one_by_one(self):
        logs = ((0, 1), (2,), (5, 4, 3))
        for hand in (2, 0, 1, 2, 0, 2):
            struck = struck_logs(THREE, [list(log) for log in logs], hand)
            plain = [list(log) for log in logs]
            del plain[hand][-1]
            self.assertEqual(tuple(map(tuple, plain)), struck)
            self.assertTrue(is_deep_tuple(struck))
            logs = struck
        self.assertEqual(((), (), ()), logs)
        for hand in range(3):
            self.must_raise(Refused, hand, struck_logs, THREE, logs, hand)

    def test_wrong_strikes(self):
        for value in any_values() + [3]:
            self.must_raise(NoHand, value, struck_logs, THREE, ((0,), (0,), ()), value)
        self.must_raise(BadLogs, 0, struck_logs, THREE, ((7,), (), ()), 9)
        self.must_raise(BadLogs, -1, struck_logs, THREE, (), None)

    def test_what_is_passed_does_not_change(self):
        story, marks, logs = [0, 1, 2], [1, 2, 3], [[1], [2], [3]]
        laid_logs(THREE, story, marks)
        marks_along(THREE, story, logs)
        struck_logs(THREE, logs, 1)
        self.assertEqual(([0, 1, 2], [1, 2, 3], [[1], [2], [3]]), (story, marks, logs))


if __name__ == "__main__":
    unittest.main()
