"""Points 24 to 26: numbers that grow, how fast they must, and numbers that are swallowed."""

import random
import unittest
from fractions import Fraction
from math import ceil, lcm

from logsapart.errors import BadLogs, BadStory, NoHand, Refused
from logsapart.hands import Hands
from logsapart.rates import (
    greatest_number, grow_back, grow_logs, grow_step, grow_story, needed_numbers, resting_number, swallow_length,
)
from support import (
    Raising, all_logs, all_stories, any_values, counts_of, fraction_share, is_deep_tuple, not_of_length, plain_ratio,
    small_hands, stories_up_to,
)

CROWD = Hands((2, 2, 3))
ALL_ONE = Hands((1,) * 8)
SOME = [Hands((1, 1)), Hands((2, 3)), CROWD, Hands((4, 6)), Hands((1, 4, 6)), Hands((5, 2, 2, 3)), Hands((3, 3, 3))]
GREAT = [10 ** 100, 10 ** 100 - 1, 7 ** 118, 10 ** 50 + 3]


def multiple(hands):
    return lcm(*hands.marks)


def weights(hands):
    return [multiple(hands) // k for k in hands.marks]


def plain_step(hands, number, hand):
    size, each = multiple(hands), weights(hands)
    behind = (number // size) * sum(each) + sum(each[:hand]) + (number % size) // hands.marks[hand]
    return behind, number % hands.marks[hand]


def numbers(hands):
    """Numbers of a few rounds, and great ones."""
    return list(range(3 * multiple(hands) + 2)) + GREAT


class Steps(Raising, unittest.TestCase):
    def test_each_number_and_hand(self):
        for hands in small_hands(4) + SOME:
            for number in numbers(hands):
                for hand in range(hands.many):
                    behind, mark = grow_step(hands, number, hand)
                    self.assertEqual(plain_step(hands, number, hand), (behind, mark))
                    self.assertEqual((hand, number), grow_back(hands, behind, mark))
                    self.assertEqual(behind // sum(weights(hands)), number // multiple(hands))

    def test_each_number_and_mark_of_one_deed(self):
        for hands in small_hands(4) + SOME:
            whole = sum(weights(hands))
            came = {}
            for number in range(2 * multiple(hands)):
                for hand in range(hands.many):
                    came.setdefault(grow_step(hands, number, hand), []).append((hand, number))
            for behind in range(2 * whole):
                hand = grow_back(hands, behind, 0)[0]
                for mark in range(hands.marks[hand]):
                    self.assertEqual([grow_back(hands, behind, mark)], came.pop((behind, mark)))
                self.must_raise(Refused, hands.marks[hand], grow_back, hands, behind, hands.marks[hand])
            self.assertEqual({}, came)

    def test_wrong_values(self):
        for value in any_values():
            self.must_raise(Refused, value, grow_step, CROWD, value, 9)
            self.must_raise(Refused, value, grow_back, CROWD, value, None)
            self.must_raise(Refused, value, grow_back, CROWD, 10 ** 100, value)
            self.must_raise(NoHand, value, grow_step, CROWD, 0, value)
        self.must_raise(NoHand, 3, grow_step, CROWD, 0, 3)
        # The hand that 0 tells has 2 marks, that of 7 has 3.
        self.must_raise(Refused, 2, grow_back, CROWD, 0, 2)
        self.assertEqual((2, 5), grow_back(CROWD, 7, 2))
        self.assertEqual((0, 1), grow_step(hands=CROWD, number=1, hand=0))
        self.assertEqual((0, 1), grow_back(hands=CROWD, number=0, mark=1))


class LogsAndStories(Raising, unittest.TestCase):
    def plain_logs(self, hands, story, number):
        logs = [[] for _ in range(hands.many)]
        for hand in story:
            number, mark = plain_step(hands, number, hand)
            logs[hand].append(mark)
        return number, tuple(map(tuple, logs))

    def test_there_and_back(self):
        for hands in SOME:
            for number in (0, 1, multiple(hands) - 1, multiple(hands), 1000, 10 ** 100):
                for story in stories_up_to(hands, 4 if hands.many == 2 else 3):
                    behind, logs = grow_logs(hands, list(story), number=number)
                    self.assertEqual(self.plain_logs(hands, story, number), (behind, logs))
                    self.assertTrue(is_deep_tuple(logs))
                    back = grow_story(hands, [list(log) for log in logs], behind)
                    self.assertEqual((number, story), back)
                    self.assertTrue(is_deep_tuple(back))

    def test_whole_blocks(self):
        # A block of L ahead goes to a block of W behind, whatever the deeds.
        for hands in SOME:
            size, whole = multiple(hands), sum(weights(hands))
            for story in all_stories(hands, 3):
                for number in range(0, size ** 3, max(1, size ** 3 // 40)):
                    behind = grow_logs(hands, story, number=number + size ** 3)[0]
                    self.assertEqual(grow_logs(hands, story, number=number)[0] + whole ** 3, behind)

    def test_no_deeds(self):
        self.assertEqual((0, ((), (), ())), grow_logs(CROWD, ()))
        self.assertEqual((5, ((), (), ())), grow_logs(hands=CROWD, story=[], number=5))
        self.assertEqual((5, ()), grow_story(hands=CROWD, logs=((), [], ()), number=5))
        self.assertRaises(TypeError, grow_logs, CROWD, (), 5)

    def test_any_logs(self):
        for hands in (Hands((2, 3)), CROWD, Hands((1, 2))):
            refused = 0
            for logs in all_logs(hands, 3):
                for number in range(20):
                    found = self.plain_story(hands, logs, number)
                    if found is None:
                        refused += 1
                        self.must_raise(Refused, logs, grow_story, hands, logs, number)
                    else:
                        self.assertEqual(found, grow_story(hands, logs, number))
                        self.assertEqual((number, logs), grow_logs(hands, found[1], number=found[0]))
            self.assertGreater(refused, 100)

    def plain_story(self, hands, logs, number):
        rows = [list(log) for log in logs]
        story = ()
        while any(rows):
            hand = grow_back(hands, number, 0)[0]
            if not rows[hand]:
                return None
            number = grow_back(hands, number, rows[hand].pop())[1]
            story = (hand,) + story
        return number, story

    def test_long_stories(self):
        source = random.Random(3)
        for hands in (CROWD, ALL_ONE, Hands((60,) * 8), Hands((59, 53, 47, 43, 41, 37, 31, 29))):
            story = tuple(source.randrange(hands.many) for _ in range(400))
            for number in (0, 10 ** 100):
                behind, logs = grow_logs(hands, story, number=number)
                self.assertEqual((number, story), grow_story(hands, logs, behind))

    def test_errors_in_their_order(self):
        for value in any_values():
            self.must_raise(Refused, value, grow_logs, CROWD, (0,), number=value)
            self.must_raise(Refused, value, grow_story, CROWD, ((0,), (), ()), value)
            self.must_raise(BadLogs, 2, grow_story, CROWD, ((), (0,), (value,)), 0)
            self.must_raise(BadStory, 1, grow_logs, CROWD, (0, value), number=None)
        for value in not_of_length(3):
            self.must_raise(BadLogs, -1, grow_story, CROWD, value, None)
        self.must_raise(BadStory, -1, grow_logs, CROWD, None)
        self.must_raise(BadStory, 0, grow_logs, CROWD, (3, 4), number=-1)


class Greatest(Raising, unittest.TestCase):
    def test_by_all_stories(self):
        for hands in small_hands(3) + SOME:
            for number in (0, 1, 2, 7, 50):
                for length in range(5 if hands.many == 2 else 4):
                    greatest = max(grow_logs(hands, s, number=number)[0] for s in all_stories(hands, length))
                    self.assertEqual(greatest, greatest_number(hands, length, number=number))
                    last_alone = (hands.many - 1,) * length
                    self.assertEqual(greatest, grow_logs(hands, last_alone, number=number)[0])

    def test_less_than_the_sum(self):
        for hands in small_hands(4) + SOME:
            total = fraction_share(hands.marks)
            for length in (1, 2, 3, 10, 40):
                bound = sum(weights(hands)) * sum(total ** power for power in range(length))
                self.assertLess(greatest_number(hands, length), bound)

    def test_limits(self):
        self.assertEqual(8 ** 400 - 1, greatest_number(ALL_ONE, 400))
        self.assertEqual(8 ** 400 * (10 ** 100 + 1) - 1, greatest_number(ALL_ONE, 400, number=10 ** 100))
        for number in (0, 3, 10 ** 100):
            self.assertEqual(number, greatest_number(hands=CROWD, length=0, number=number))
        self.assertRaises(TypeError, greatest_number, CROWD, 1, 0)

    def test_wrong_values(self):
        for value in any_values():
            self.must_raise(Refused, value, greatest_number, CROWD, 3, number=value)
            self.must_raise(Refused, value, needed_numbers, CROWD, value)
            self.must_raise(Refused, value, greatest_number, CROWD, value, number="x")
        for value in (401, 10 ** 30):
            self.must_raise(Refused, value, greatest_number, CROWD, value, number="x")
            self.must_raise(Refused, value, needed_numbers, CROWD, value, riders=())


def plain_needed(hands, length, riders):
    most = Fraction(0)
    for counts in counts_of(hands.many, length):
        ratio = plain_ratio(hands, counts)
        for things, count in zip(riders, counts):
            ratio *= things ** count
        most = max(most, ratio)
    return ceil(most)


class Needed(Raising, unittest.TestCase):
    def test_by_all_counts(self):
        for hands in small_hands(3) + SOME[:-2]:
            for length in range(9 if hands.many == 2 else 6):
                plain = plain_needed(hands, length, (1,) * hands.many)
                self.assertEqual(plain, needed_numbers(hands, length))
                self.assertEqual(plain, needed_numbers(hands, length, riders=[1] * hands.many))

    def test_with_riders(self):
        source = random.Random(4)
        for hands in SOME + [Hands((60, 59)), Hands((7, 11, 13))]:
            for _ in range(6):
                riders = [source.choice((1, 2, 3, 5, 59, 60)) for _ in hands.marks]
                for length in range(7 if hands.many < 4 else 4):
                    self.assertEqual(plain_needed(hands, length, riders), needed_numbers(hands, length, riders=riders))

    def test_so_many_are_needed_of_any_rule(self):
        # By this very rule: of all stories of one length with alike logs none end at one number.
        for hands in (CROWD, Hands((1, 2)), Hands((1, 1, 2))):
            for length in range(6):
                behind = {}
                for story in all_stories(hands, length):
                    number, logs = grow_logs(hands, story)
                    behind.setdefault(logs, []).append(number)
                self.assertTrue(all(len(set(each)) == len(each) for each in behind.values()))
                self.assertGreaterEqual(greatest_number(hands, length) + 1, needed_numbers(hands, length))

    def test_not_less_than_the_power_of_the_share(self):
        for hands in small_hands(3) + SOME:
            for length in (0, 1, 5, 40, 400):
                bound = fraction_share(hands.marks) ** length / (length + 1) ** hands.many
                self.assertGreaterEqual(needed_numbers(hands, length), bound)

    def test_shares_at_most_one_need_one(self):
        for hands in (Hands((2, 3, 6)), Hands((2, 2)), Hands((60,) * 8), Hands((8,) * 8)):
            for length in (0, 1, 60, 400):
                self.assertEqual(1, needed_numbers(hands, length))
        # Here riders take room: three things of two marks.
        self.assertEqual(2, needed_numbers(Hands((60, 2)), 1, riders=(1, 3)))
        self.assertEqual(1, needed_numbers(Hands((60, 2)), 400, riders=(30, 1)))

    def test_to_the_limit(self):
        many = needed_numbers(ALL_ONE, 400)
        plain = 1
        for deed in range(1, 401):
            plain *= deed
        for _ in range(8):
            for deed in range(1, 51):
                plain //= deed
        self.assertEqual(plain, many)
        self.assertEqual(plain * 20 ** 400, needed_numbers(ALL_ONE, 400, riders=(20,) * 8))
        uneven = Hands((1, 60))
        self.assertEqual(plain_needed(uneven, 400, (60, 1)), needed_numbers(uneven, 400, riders=(60, 1)))
        self.assertEqual(plain_needed(uneven, 400, (3, 60)), needed_numbers(uneven, 400, riders=(3, 60)))

    def test_wrong_riders(self):
        for value in any_values() + [(1, 1), (1,) * 4, [1, 1, 0], (61, 1, 1), [1, True, 1], (1, None, 1), (1, 1, "1"), 3]:
            if value is not None:
                self.must_raise(Refused, value, needed_numbers, CROWD, 2, riders=value)
        self.assertEqual(2, needed_numbers(hands=CROWD, length=9, riders=None))
        self.assertRaises(TypeError, needed_numbers, CROWD, 2, (1, 1, 1))


BELOW = [hands for hands in small_hands(6) + [Hands((2, 5, 7)), Hands((60, 60)), Hands((3, 4, 5, 20))]
         if fraction_share(hands.marks) < 1]


class Swallowing(Raising, unittest.TestCase):
    def test_the_greatest_number_left_as_it_is(self):
        for hands in BELOW:
            last = hands.many - 1
            resting = resting_number(hands)
            self.assertEqual(resting, plain_step(hands, resting, last)[0])
            # From here on all numbers shrink; a round more or less shows that as well as all.
            for number in list(range(resting + 1, resting + 3 * multiple(hands))) + GREAT:
                self.assertLess(plain_step(hands, number, last)[0], number)

    def test_no_story_leads_above_it(self):
        for hands in BELOW:
            resting = resting_number(hands)
            for number in range(resting + 1):
                self.assertLessEqual(max(plain_step(hands, number, hand)[0] for hand in range(hands.many)), resting)

    def test_swallowed_by_all_stories(self):
        for hands in BELOW[::7]:
            resting = resting_number(hands)
            for number in range(resting, resting + 3 * multiple(hands), 5):
                deeds, ends = 0, {number}
                while max(ends) > resting:
                    ends = {plain_step(hands, end, hand)[0] for end in ends for hand in range(hands.many)}
                    deeds += 1
                self.assertEqual(deeds, swallow_length(hands, number))

    def test_long_letters(self):
        source = random.Random(6)
        for hands in (Hands((2, 3)), Hands((3, 4, 5, 20)), Hands((60, 60)), Hands((2, 3, 9, 33, 44)), Hands((20, 20, 2))):
            resting = resting_number(hands)
            for number in GREAT[:2]:
                deeds = swallow_length(hands, number)
                # One deed fewer of the last hand alone is not enough.
                end = number
                for deed in range(deeds):
                    self.assertGreater(end, resting)
                    end = plain_step(hands, end, hands.many - 1)[0]
                self.assertLessEqual(end, resting)
                end, kept = number, []
                for _ in range(deeds):
                    hand = source.randrange(hands.many)
                    end, mark = grow_step(hands, end, hand) if deeds < 2000 else plain_step(hands, end, hand)
                    kept.append((hand, mark))
                self.assertLessEqual(end, resting)
                if deeds < 2000:
                    for hand, mark in reversed(kept):
                        self.assertEqual(hand, grow_back(hands, end, mark)[0])
                        end = grow_back(hands, end, mark)[1]
                    self.assertEqual(number, end)

    def test_nothing_to_swallow(self):
        for hands in BELOW:
            for number in (0, resting_number(hands)):
                self.assertEqual(0, swallow_length(hands, number))
            self.assertGreater(swallow_length(hands, resting_number(hands) + 1), 0)

    def test_wrong_values(self):
        for hands in small_hands(4) + [ALL_ONE, Hands((2, 3, 6))]:
            if fraction_share(hands.marks) >= 1:
                self.must_raise(Refused, hands, resting_number, hands)
                self.must_raise(Refused, hands, swallow_length, hands, 10)
                self.must_raise(Refused, hands, swallow_length, hands, None)
        for value in any_values():
            self.must_raise(Refused, value, swallow_length, Hands((2, 3)), value)
        self.assertEqual(26, swallow_length(hands=Hands((2, 3)), number=1000))


if __name__ == "__main__":
    unittest.main()
