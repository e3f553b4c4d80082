"""Point 38: kinds of deeds by a number, their marks, and logs read back from a place."""

import random
import unittest
from itertools import product
from math import lcm

from logsapart.digits import Digits, digit_logs, step
from logsapart.errors import BadLogs, BadStory, Refused, TooGreat
from logsapart.hands import Hands
from logsapart.kinds import Kinds, is_served, kinds_share
from logsapart.meets import Tally, kind_at, kinds_number, meet, tally_logs, tally_story, unmeet
from support import Raising, any_values, is_deep_tuple, not_of_length, telling_hands

KINDS = Kinds(Hands((2, 3, 1)), ((0,), (0, 1), (1,)))
SIX = Tally(KINDS, 6)
BELOW = Kinds(Hands((2, 4)), ((0,), (0, 1), (0, 1)))
WIDE = Tally(BELOW, 23)


def goes(kinds, number):
    return sum(-(-number // size) for size in kinds.sizes) <= number


def plain_least(kinds):
    number = 1
    while not goes(kinds, number):
        number += 1
    return number


def served_kinds():
    source = random.Random(40)
    told = [KINDS, BELOW, Kinds(Hands((1, 1)), [[0, 1]]), Kinds(Hands((2, 2)), [[0, 1]] * 4), Kinds(Hands((9, 5)), [[1]])]
    lots = ((0,), (1,), (2,), (0, 1), (0, 2), (1, 2), (0, 1, 2))
    for marks in ((2, 2, 2), (2, 3, 4), (1, 5, 3), (4, 4, 2)):
        some = [Kinds(Hands(marks), [source.choice(lots) for _ in range(source.randrange(1, 7))]) for _ in range(20)]
        told.extend([kinds for kinds in some if is_served(kinds)][:6])
    return told


def tallies():
    """Tallies of the least number and of others; in some of them places are in no stretch."""
    told = [SIX, WIDE]
    for kinds in served_kinds():
        least = plain_least(kinds)
        told.append(Tally(kinds, least))
        told.extend(Tally(kinds, number) for number in (least + 1, least + 2, 2 * least, 41, 60) if goes(kinds, number))
    return told


def plain_marks(tally, kind, rest):
    """The marks of a rest by counting all rows of the lot's marks, the last hand's running fastest."""
    rows = list(product(*[range(tally.kinds.hands.marks[hand]) for hand in tally.kinds.lots[kind]]))
    return rows[rest]


def plain_meet(tally, place, kind):
    size = tally.kinds.sizes[kind]
    return tally.starts[kind] + place // size, plain_marks(tally, kind, place % size)


class Numbers(Raising, unittest.TestCase):
    def test_by_trying(self):
        for kinds in served_kinds():
            least = plain_least(kinds)
            self.assertEqual(least, kinds_number(kinds, most=10000))
            self.assertEqual(least, kinds_number(kinds, most=least))
            if kinds_share(kinds) == (1, 1):
                self.assertEqual(lcm(*kinds.sizes), least)
            if least > 1:
                self.must_raise(TooGreat, least - 1, kinds_number, kinds, most=least - 1)

    def test_far_ones(self):
        kinds = Kinds(Hands((60, 59, 58)), [(0, 1)] * 6 + [(1, 2)] * 6)
        self.assertEqual(12, kinds_number(kinds, most=10000))
        kinds = Kinds(Hands((2, 3, 11, 13)), [[0], [1], [2], [2, 3]])
        self.assertEqual(plain_least(kinds), kinds_number(kinds, most=10000))
        kinds = Kinds(Hands((2, 3, 7, 43, 42)), [[0], [1], [2], [3]])
        self.assertEqual((1805, 1806), kinds_share(kinds))
        self.assertEqual(plain_least(kinds), kinds_number(kinds, most=10000))
        kinds = Kinds(Hands((10, 59, 60)), [[0]] * 9 + [[0, 1]] * 2)
        self.assertEqual(plain_least(kinds), kinds_number(kinds, most=10000))
        kinds = Kinds(Hands((2, 60, 59)), [[0], [0, 1]] + [[0, 2]] * 9)
        self.assertEqual(plain_least(kinds), kinds_number(kinds, most=10000))
        tight = Kinds(Hands((12, 60, 59)), [[0]] * 12)
        self.assertEqual(12, kinds_number(tight, most=12))
        self.assertRaises(TypeError, kinds_number, tight, 12)
        self.assertRaises(TypeError, kinds_number, tight)
        far = Kinds(Hands((2, 60, 59, 60)), [[0], [0, 1], [1, 2], [1, 2, 3]])
        self.assertEqual(plain_least(far), kinds_number(far, most=10000))

    def test_above_one(self):
        above = Kinds(Hands((2, 3)), ((0,), (0, 1), (1,), (1,)))
        self.must_lack_telling(4, 3, kinds_number, above, most=1)
        for value in any_values() + [6]:
            self.must_lack_telling(4, 3, Tally, above, value)


class Tallies(Raising, unittest.TestCase):
    def test_attributes(self):
        for tally in tallies():
            starts = [0]
            for size in tally.kinds.sizes:
                starts.append(starts[-1] + -(-tally.number // size))
            self.assertEqual(tuple(starts), tally.starts)
            self.assertLessEqual(starts[-1], tally.number)
        self.assertTrue(SIX.kinds == KINDS)
        self.assertEqual((6, (0, 3, 4, 6)), (SIX.number, SIX.starts))

    def test_which_numbers_go(self):
        for kinds in served_kinds():
            for number in range(1, 60):
                if goes(kinds, number):
                    self.assertEqual(number, Tally(kinds=kinds, number=number).number)
                else:
                    self.must_raise(Refused, number, Tally, kinds, number)
        self.assertEqual((0, 500000, 625000, 750000), Tally(BELOW, 10 ** 6).starts)
        for value in any_values() + [0, 5, 7]:
            self.must_raise(Refused, value, Tally, KINDS, value)

    def test_equality(self):
        self.assertTrue(SIX == Tally(Kinds(Hands([2, 3, 1]), [[0], [0, 1], [1]]), 6))
        self.assertFalse(SIX != Tally(KINDS, 6))
        self.assertFalse(SIX == Tally(KINDS, 12))
        self.assertFalse(SIX == Tally(Kinds(Hands((2, 3, 1)), ((0,), (1,), (0, 1))), 6))
        for value in any_values() + [6, KINDS, Digits(Hands((2, 3, 6)))]:
            self.assertFalse(SIX == value)


class Deeds(Raising, unittest.TestCase):
    def test_each_place_and_kind_and_back(self):
        for tally in tallies():
            came = {}
            for place in range(tally.number):
                for kind in range(len(tally.kinds.lots)):
                    behind, marks = meet(tally, place, kind)
                    self.assertEqual(plain_meet(tally, place, kind), (behind, marks))
                    self.assertEqual(kind, kind_at(tally, behind))
                    self.assertEqual((kind, place), unmeet(tally, behind, list(marks)))
                    came[behind, marks] = (kind, place)
            self.assertEqual(tally.number * len(tally.kinds.lots), len(came))
            self.check_back(tally, came)

    def check_back(self, tally, came):
        for place in range(tally.number):
            kind = kind_at(tally, place)
            if kind is None:
                self.assertGreaterEqual(place, tally.starts[-1])
                self.must_raise(Refused, place, unmeet, tally, place, None)
                self.must_raise(Refused, place, unmeet, tally, place, (0,))
                continue
            self.assertTrue(tally.starts[kind] <= place < tally.starts[kind + 1])
            for rest in range(tally.kinds.sizes[kind]):
                marks = plain_marks(tally, kind, rest)
                if (place, marks) not in came:
                    self.must_raise(Refused, marks, unmeet, tally, place, marks)

    def test_some_places_are_in_no_stretch(self):
        self.assertEqual((0, 12, 15, 18), WIDE.starts)
        self.assertEqual([None] * 5, [kind_at(WIDE, place) for place in range(18, 23)])
        self.assertEqual((11, (0,)), meet(WIDE, 22, 0))
        self.must_raise(Refused, (1,), unmeet, WIDE, 11, (1,))

    def test_each_place_leads_to_each_one(self):
        for kinds in served_kinds():
            tally = Tally(kinds, kinds_number(kinds, most=10000))
            for start in range(0, tally.number, 1 + tally.number // 40):
                come_to, new = {start}, [start]
                while new:
                    ahead = new.pop()
                    for kind in range(len(kinds.lots)):
                        place = meet(tally, ahead, kind)[0]
                        if place not in come_to:
                            come_to.add(place)
                            new.append(place)
                self.assertEqual(tally.number, len(come_to))

    def test_lots_of_one_hand_are_digits(self):
        for hands in telling_hands(4):
            digits = Digits(hands)
            tally = Tally(Kinds(hands, [[hand] for hand in range(hands.many)]), digits.number)
            for place in range(digits.number):
                for hand in range(hands.many):
                    behind, mark = step(digits, place, hand)
                    self.assertEqual((behind, (mark,)), meet(tally, place, hand))
            for story in product(range(hands.many), repeat=3):
                self.assertEqual(digit_logs(digits, story), tally_logs(tally, story))

    def test_great_numbers(self):
        tally = Tally(Kinds(Hands((60,) * 8), [tuple(range(8)), (0, 2, 5), (7,)]), 10 ** 6)
        source = random.Random(41)
        for _ in range(300):
            place, kind = source.randrange(10 ** 6), source.randrange(3)
            behind, marks = meet(tally, place, kind)
            self.assertEqual(len(tally.kinds.lots[kind]), len(marks))
            self.assertEqual((kind, place), unmeet(tally, behind, marks))
        self.assertEqual((0, (0, 0, 0, 0, 4, 37, 46, 39)), meet(tally, 999999, 0))

    def test_wrong_values(self):
        for value in any_values() + [6, 10 ** 30]:
            self.must_raise(Refused, value, meet, SIX, value, 9)
            self.must_raise(Refused, value, kind_at, SIX, value)
            self.must_raise(Refused, value, unmeet, SIX, value, None)
            self.must_raise(Refused, value, tally_logs, SIX, (1,), value)
            self.must_raise(Refused, value, tally_story, SIX, value, None)
        for value in any_values() + [3]:
            self.must_raise(Refused, value, meet, SIX, 0, value)
        # The kind at 3 is of hands 0 and 1.
        self.assertEqual((1, 5), unmeet(tally=SIX, place=3, marks=[1, 2]))
        for value in [v for v in any_values() if v != (0, 0)] + [(2, 0), (0, 3), [0, True], (0,), (0, 0, 0), 5]:
            self.must_raise(Refused, value, unmeet, SIX, 3, value)
        for value in ((2,), (0, 0), [True], 0, ()):
            self.must_raise(Refused, value, unmeet, SIX, 0, value)


def plain_story(tally, place, logs):
    rows = [list(log) for log in logs]
    story = ()
    while any(rows):
        kind = kind_at(tally, place)
        if kind is None or not all(rows[hand] for hand in tally.kinds.lots[kind]):
            break
        try:
            _, place = unmeet(tally, place, [rows[hand].pop() for hand in tally.kinds.lots[kind]])
        except Refused:
            break
        story = (kind,) + story
    return story, place


class LogsAndStories(Raising, unittest.TestCase):
    def test_there_and_back(self):
        for tally in tallies():
            for place in {0, tally.number // 2, tally.number - 1}:
                for story in product(range(len(tally.kinds.lots)), repeat=3):
                    behind, logs = tally_logs(tally, list(story), place)
                    self.assertEqual(self.plain_logs(tally, story, place), (behind, logs))
                    self.assertTrue(is_deep_tuple(logs))
                    back = tally_story(tally, behind, [list(log) for log in logs])
                    self.assertEqual((story, place), back)
                    self.assertIsInstance(back[0], tuple)

    def plain_logs(self, tally, story, place):
        logs = [[] for _ in tally.kinds.hands.marks]
        for kind in story:
            place, marks = plain_meet(tally, place, kind)
            for hand, mark in zip(tally.kinds.lots[kind], marks):
                logs[hand].append(mark)
        return place, tuple(map(tuple, logs))

    def test_any_logs(self):
        source = random.Random(42)
        lengths = set()
        for tally in tallies():
            for _ in range(60):
                logs = [[source.randrange(marks) for _ in range(source.randrange(5))] for marks in tally.kinds.hands.marks]
                place = source.randrange(tally.number)
                told = tally_story(tally, place, logs)
                self.assertEqual(plain_story(tally, place, logs), told)
                lengths.add(len(told[0]))
        self.assertTrue({0, 1, 2, 3} <= lengths)

    def test_no_deeds(self):
        self.assertEqual((0, ((), (), ())), tally_logs(SIX, ()))
        self.assertEqual((5, ((), (), ())), tally_logs(tally=SIX, story=[], place=5))
        self.assertEqual(((), 5), tally_story(tally=SIX, place=5, logs=((), [], ())))
        # Entries of a hand in no lot are never read.
        self.assertEqual(((), 0), tally_story(SIX, 0, ((), (2, 1), (0, 0))))
        self.assertEqual(((1,), 5), tally_story(SIX, 3, ((1,), (2,), (0,))))

    def test_long_stories(self):
        source = random.Random(43)
        for tally in (SIX, WIDE, Tally(Kinds(Hands((60,) * 8), [tuple(range(8)), (0, 2, 5), (7,)]), 999999)):
            many = 10000 // max(map(len, tally.kinds.lots))
            story = tuple(source.randrange(3) for _ in range(many))
            behind, logs = tally_logs(tally, story, 5)
            self.assertEqual((story, 5), tally_story(tally, behind, logs))

    def test_errors_in_their_order(self):
        for value in any_values() + [3]:
            self.must_raise(BadStory, 1, tally_logs, SIX, (2, value), None)
        self.must_raise(BadStory, -1, tally_logs, SIX, None, None)
        self.must_raise(Refused, 6, tally_story, SIX, 6, None)
        for value in not_of_length(3):
            self.must_raise(BadLogs, -1, tally_story, SIX, 0, value)
        self.must_raise(BadLogs, 2, tally_story, SIX, 0, ((), (0,), (1,)))


if __name__ == "__main__":
    unittest.main()
