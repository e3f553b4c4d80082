"""Points 19 to 21: places, their stretches, steps there and back, and logs by them."""

import unittest
from itertools import product
from math import ceil, lcm

from logsapart.digits import Digits, digit_logs, digit_story, least_number, step, step_back, who_at
from logsapart.errors import BadLogs, BadStory, NoHand, Refused
from logsapart.hands import Hands, share
from support import (
    Raising, all_logs, any_values, fraction_share, is_deep_tuple, small_hands, stories_up_to, telling_hands,
)

SIX = Digits(Hands((2, 3, 6)))
WIDE = Digits(Hands((2, 4)), 11)


def goes(hands, number):
    return sum(-(-number // k) for k in hands.marks) <= number


def plain_least(hands):
    number = 1
    while not goes(hands, number):
        number += 1
    return number


def some_digits():
    """Digits of small hands, with the least number and with some other ones."""
    told = []
    for hands in telling_hands(4) + [Hands((4, 4, 4, 4)), Hands((2, 5, 7))]:
        told.append(Digits(hands))
        told.extend(Digits(hands, number) for number in range(1, 14) if goes(hands, number))
    return told


class LeastNumbers(unittest.TestCase):
    def test_by_trying(self):
        for hands in small_hands(7) + small_hands(3, (4,)) + [Hands((8,) * 8), Hands((9,) * 8), Hands((60, 60))]:
            if fraction_share(hands.marks) > 1:
                self.assertIsNone(least_number(hands))
            else:
                self.assertEqual(plain_least(hands), least_number(hands))

    def test_bounds(self):
        for hands in telling_hands(8):
            total = fraction_share(hands.marks)
            if total == 1:
                self.assertEqual(lcm(*hands.marks), least_number(hands))
            else:
                lacking = (hands.many - total) / (1 - total)
                self.assertLessEqual(least_number(hands), ceil(lacking))

    def test_to_the_limit(self):
        # Common multiples to 100,000; of the third ones the share lacks 1 / 20,196.
        for marks in ((2, 9, 17, 25, 26), (3, 4, 7, 27, 50), (34, 9, 54, 12, 11, 2, 6), (2, 3, 7, 42), (60, 60)):
            self.assertEqual(plain_least(Hands(marks)), least_number(Hands(marks)))

    def test_no_rule_has_fewer_places(self):
        # Each hand must tell all places ahead by the places that tell it and its marks.
        for hands in telling_hands(5):
            for number in range(1, min(least_number(hands), 6)):
                for tells in product(range(hands.many), repeat=number):
                    self.assertTrue(any(tells.count(hand) * k < number for hand, k in enumerate(hands.marks)))

    def test_each_place_leads_to_each_one(self):
        for hands in telling_hands(7):
            digits = Digits(hands)
            for start in range(digits.number):
                come_to, new = {start}, [start]
                while new:
                    ahead = new.pop()
                    for hand in range(hands.many):
                        place = step(digits, ahead, hand)[0]
                        if place not in come_to:
                            come_to.add(place)
                            new.append(place)
                self.assertEqual(digits.number, len(come_to))


class MakingDigits(Raising, unittest.TestCase):
    def test_attributes(self):
        for hands in telling_hands(4):
            for number in (None, 1, 2, 3, 5, 8, 60, 61, 997):
                if number is not None and not goes(hands, number):
                    self.must_raise(Refused, number, Digits, hands, number)
                    continue
                digits = Digits(hands, number)
                self.assertEqual(hands, digits.hands)
                self.assertEqual(plain_least(hands) if number is None else number, digits.number)
                self.assertTrue(is_deep_tuple(digits.stretches))
                first = 0
                for (begin, behind), k in zip(digits.stretches, hands.marks):
                    self.assertEqual((first, first + -(-digits.number // k)), (begin, behind))
                    first = behind
                self.assertLessEqual(first, digits.number)

    def test_great_numbers(self):
        digits = Digits(hands=Hands((2, 3, 6)), number=999999996)
        self.assertEqual(((0, 499999998), (499999998, 833333330), (833333330, 999999996)), digits.stretches)
        self.must_raise(Refused, 10 ** 9, Digits, Hands((2, 3, 6)), 10 ** 9)
        self.assertEqual((7 * 10 ** 8 + 1, 1), step(Digits(Hands((2, 4)), 10 ** 9), 8 * 10 ** 8 + 5, 1))

    def test_equality(self):
        hands = Hands((3, 3))
        self.assertTrue(Digits(hands) == Digits(Hands([3, 3]), 2))
        self.assertFalse(Digits(hands) != Digits(hands, number=2))
        self.assertFalse(Digits(hands) == Digits(hands, 4))
        self.assertFalse(Digits(hands, 4) == Digits(Hands((2, 4)), 4))
        for value in any_values() + [2]:
            self.assertFalse(Digits(hands) == value)

    def test_wrong_numbers(self):
        for value in any_values() + [0, 1, 3, 5, 7]:
            if value is not None:
                self.must_raise(Refused, value, Digits, SIX.hands, value)
        for hands in small_hands(4):
            if fraction_share(hands.marks) > 1:
                for value in (None, 6, "6"):
                    self.must_lack_telling(*share(hands), Digits, hands, value)


class Steps(Raising, unittest.TestCase):
    def test_each_place_and_hand(self):
        for digits in some_digits():
            came = {}
            for place in range(digits.number):
                for hand, marks in enumerate(digits.hands.marks):
                    behind, mark = step(digits, place, hand)
                    self.assertEqual((digits.stretches[hand][0] + place // marks, place % marks), (behind, mark))
                    self.assertEqual(hand, who_at(digits, behind))
                    self.assertEqual((hand, place), step_back(digits, behind, mark))
                    self.assertNotIn((behind, mark), came)
                    came[behind, mark] = (hand, place)
            self.check_back(digits, came)

    def check_back(self, digits, came):
        for place in range(digits.number):
            hand = who_at(digits, place)
            for mark in range(0 if hand is None else digits.hands.marks[hand]):
                if (place, mark) in came:
                    self.assertEqual(came[place, mark], step_back(digits, place, mark))
                else:
                    self.must_raise(Refused, mark, step_back, digits, place, mark)

    def test_places_in_no_stretch(self):
        self.assertEqual(((0, 6), (6, 9)), WIDE.stretches)
        for place in (9, 10):
            self.assertIsNone(who_at(WIDE, place))
            for mark in (0, 1, None, 9):
                self.must_raise(Refused, place, step_back, WIDE, place, mark)
            self.assertEqual((place // 2, place % 2), step(WIDE, place, 0))
        self.must_raise(Refused, 1, step_back, WIDE, 5, 1)
        self.assertEqual((0, 10), step_back(WIDE, 5, 0))

    def test_wrong_values(self):
        for value in any_values() + [6, 7, 10 ** 30]:
            self.must_raise(Refused, value, who_at, SIX, value)
            self.must_raise(Refused, value, step, SIX, value, 9)
            self.must_raise(Refused, value, step_back, SIX, value, None)
            self.must_raise(Refused, value, step_back, SIX, 0, value)
            self.must_raise(Refused, value, digit_logs, SIX, (), value)
            self.must_raise(Refused, value, digit_story, SIX, value, None)
        for value in any_values() + [3]:
            self.must_raise(NoHand, value, step, SIX, 0, value)
        # Marks go by the hand in whose stretch the place is.
        self.must_raise(Refused, 2, step_back, SIX, 0, 2)
        self.must_raise(Refused, 3, step_back, SIX, 3, 3)
        self.assertEqual((2, 5), step_back(SIX, 5, 5))


class LogsAndStories(Raising, unittest.TestCase):
    def test_there_and_back(self):
        for digits in some_digits():
            for place in {0, digits.number // 2, digits.number - 1}:
                for story in stories_up_to(digits.hands, 3):
                    behind, logs = digit_logs(digits, list(story), place)
                    self.assertTrue(is_deep_tuple(logs))
                    self.assertEqual((behind, logs), self.plain_logs(digits, story, place))
                    # A whole log tells where the story begins: then nobody has an entry left.
                    self.assertEqual((story, place), digit_story(digits, behind, [list(log) for log in logs]))

    def plain_logs(self, digits, story, place):
        logs = [[] for _ in range(digits.hands.many)]
        for hand in story:
            place, mark = step(digits, place, hand)
            logs[hand].append(mark)
        return place, tuple(map(tuple, logs))

    def test_begins_at_place_0(self):
        self.assertEqual(digit_logs(SIX, (1, 2), 0), digit_logs(SIX, (1, 2)))
        self.assertEqual((5, ((), (), ())), digit_logs(digits=SIX, story=(), place=5))
        self.assertEqual(((), 5), digit_story(SIX, 5, ((), [], ())))

    def test_any_logs(self):
        for digits in (SIX, WIDE, Digits(Hands((3, 3))), Digits(Hands((2, 2)), 4)):
            for logs in all_logs(digits.hands, 3):
                for place in range(digits.number):
                    self.assertEqual(self.plain_story(digits, place, logs), digit_story(digits, place, logs))

    def plain_story(self, digits, place, logs):
        rows = [list(log) for log in logs]
        story = ()
        while any(rows):
            hand = who_at(digits, place)
            if hand is None or not rows[hand]:
                break
            try:
                place = step_back(digits, place, rows[hand].pop())[1]
            except Refused:
                break
            story = (hand,) + story
        return story, place

    def test_beginnings_gone(self):
        for digits in (SIX, WIDE, Digits(Hands((3, 3))), Digits(Hands((2, 4, 4)))):
            for story in stories_up_to(digits.hands, 5):
                behind, logs = digit_logs(digits, story)
                for gone in product(*[range(len(log) + 1) for log in logs]):
                    cut = tuple(log[many:] for log, many in zip(logs, gone))
                    # The last deed whose entry is gone, and what is behind it.
                    deeds = [[at for at, each in enumerate(story) if each == hand] for hand in range(len(logs))]
                    lost = max([at for each, many in zip(deeds, gone) for at in each[:many]], default=-1)
                    told = (story[lost + 1:], digit_logs(digits, story[:lost + 1])[0])
                    self.assertEqual(told, digit_story(digits, behind, cut))

    def test_to_the_limit(self):
        hands = Hands((11, 2, 9, 6, 12, 34, 54))
        digits = Digits(hands)
        story = tuple((5 * deed * deed + deed // 3) % 7 for deed in range(400))
        behind, logs = digit_logs(digits, story, 7)
        self.assertEqual((story, 7), digit_story(digits, behind, logs))

    def test_errors_in_their_order(self):
        self.must_raise(BadStory, 0, digit_logs, SIX, (3,), 9)
        self.must_raise(BadStory, -1, digit_logs, SIX, None, None)
        self.must_raise(Refused, 6, digit_logs, SIX, (0,), 6)
        self.must_raise(Refused, 6, digit_story, SIX, 6, None)
        self.must_raise(BadLogs, -1, digit_story, SIX, 0, None)
        self.must_raise(BadLogs, 1, digit_story, SIX, 0, ((0,), (3,), None))


if __name__ == "__main__":
    unittest.main()
