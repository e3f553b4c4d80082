"""Point 27: riders, carriers, marks that tell who acted with which thing."""

import random
import unittest
from fractions import Fraction
from itertools import product
from math import lcm

from logsapart.dials import Dial, logs_of, mark_of
from logsapart.errors import BadLogs, BadStory, NoHand, Refused, TooGreat
from logsapart.hands import Hands
from logsapart.rates import needed_numbers
from logsapart.riders import Carrier, carried_last, carry_logs, carry_mark, carry_story, most_riders, riders_share
from support import Raising, all_logs, any_values, is_deep_tuple, not_of_length, small_hands, telling_hands

PAIR = Carrier(Hands((2, 4)), (1, 2))
# Of marks up to 60 the greatest size to 10 ** 9 of one share at most 1, and the least one above.
GREATEST = (11, 17, 43, 47, 49, 54)
TOO_GREAT = (7, 31, 37, 47, 50, 53)


def plain_share(hands, riders):
    return sum((Fraction(things, marks) for things, marks in zip(riders, hands.marks)), Fraction(0))


def plain_carriers(marks=(1, 2, 3, 4), things=(1, 2, 3)):
    """(hands, riders) of all few marks and things, of a share of at most 1."""
    told = []
    for many in (2, 3):
        for each in product(marks, repeat=many):
            for riders in product(things, repeat=many):
                if plain_share(Hands(each), riders) <= 1:
                    told.append((Hands(each), riders))
    return told


CARRIERS = plain_carriers() + [
    (Hands((4, 4, 4)), (2, 1, 1)), (Hands((6, 5)), (3, 2)), (Hands((60, 60)), (30, 30)), (Hands((2, 5, 7)), (1, 1, 2)),
    (Hands((8,) * 8), (1,) * 8),
]


def plain_places(hands, riders):
    """By place of the dial (hand, thing)."""
    size = lcm(*hands.marks)
    row = [(hand, thing) for hand, things in enumerate(riders) for thing in range(things)
           for _ in range(size // hands.marks[hand])]
    return row + [None] * (size - len(row))


def plain_place(hands, last):
    size = lcm(*hands.marks)
    return sum(mark * (size // marks) for mark, marks in zip(last, hands.marks)) % size


def some_lasts(hands, most=40):
    rows = list(product(*[range(marks) for marks in hands.marks])) if hands.many < 4 else [(0,) * 8, (7,) * 8]
    return rows[::max(1, len(rows) // most)]


class Carriers(Raising, unittest.TestCase):
    def test_attributes(self):
        for hands, riders in CARRIERS:
            carrier = Carrier(hands, list(riders))
            self.assertEqual((hands, riders, lcm(*hands.marks)), (carrier.hands, carrier.riders, carrier.size))
            self.assertTrue(is_deep_tuple(carrier.riders) and is_deep_tuple(carrier.arcs))
            places = plain_places(hands, riders)
            first = 0
            for hand, arc in enumerate(carrier.arcs):
                behind = first + sum(place is not None and place[0] == hand for place in places)
                self.assertEqual((first, behind), arc)
                first = behind

    def test_equality(self):
        self.assertTrue(PAIR == Carrier(hands=Hands([2, 4]), riders=[1, 2]))
        self.assertFalse(PAIR != Carrier(Hands([2, 4]), (1, 2)))
        self.assertFalse(PAIR == Carrier(Hands([2, 4]), (1, 1)))
        self.assertFalse(PAIR == Carrier(Hands([4, 4]), (1, 2)))
        for value in any_values() + [Dial(Hands((2, 4)))]:
            self.assertFalse(PAIR == value)

    def test_shares(self):
        for hands in small_hands(4):
            for riders in product((1, 2, 5), repeat=hands.many):
                plain = plain_share(hands, riders)
                self.assertEqual((plain.numerator, plain.denominator), riders_share(hands, riders))
                if plain > 1:
                    self.must_lack_telling(plain.numerator, plain.denominator, Carrier, hands, riders)
        self.assertEqual((120, 1), riders_share(hands=Hands((1, 1)), riders=[60, 60]))
        # Just 1, below and above.
        self.assertEqual((1, 1), riders_share(Hands((60, 60)), (59, 1)))
        self.assertEqual(60, Carrier(Hands((60, 60)), (59, 1)).size)
        self.assertEqual((59, 60), riders_share(Hands((60, 60)), (58, 1)))
        self.must_lack_telling(61, 60, Carrier, Hands((60, 60)), (59, 2))

    def test_size(self):
        hands = Hands(GREATEST)
        carrier = Carrier(hands, (1,) * 6)
        self.assertEqual((lcm(*GREATEST), True), (carrier.size, carrier.size <= 10 ** 9))
        self.assertEqual(carry_mark(carrier, (1,) * 6, 3, 0), mark_of(Dial(hands), (1,) * 6, 3))
        hands = Hands(TOO_GREAT)
        self.assertGreater(lcm(*TOO_GREAT), 10 ** 9)
        self.must_raise(TooGreat, 10 ** 9, Carrier, hands, (1,) * 6)
        # A share above 1 comes first, and wrong riders ahead of that.
        plain = plain_share(hands, (60,) * 6)
        self.must_lack_telling(plain.numerator, plain.denominator, Carrier, hands, (60,) * 6)
        wrong = (61,) * 6
        self.must_raise(Refused, wrong, Carrier, hands, wrong)

    def test_wrong_riders(self):
        wrong = any_values() + [(1,), (1, 1, 1), (0, 1), (1, 61), [1, True], (1, None), ((1,), 1), (1, "1"), 2]
        for value in wrong:
            self.must_raise(Refused, value, riders_share, PAIR.hands, value)
            self.must_raise(Refused, value, Carrier, PAIR.hands, value)
            self.must_raise(Refused, value, Carrier, Hands((1, 1)), value)
            self.must_raise(Refused, value, most_riders, PAIR.hands, value, 9)


class Marks(Raising, unittest.TestCase):
    def test_by_all_marks(self):
        for hands, riders in CARRIERS:
            carrier = Carrier(hands, riders)
            places = plain_places(hands, riders)
            for last in some_lasts(hands):
                self.assertEqual(places[plain_place(hands, last)], carried_last(carrier, list(last)))
                for hand in range(hands.many):
                    rows = [last[:hand] + (mark,) + last[hand + 1:] for mark in range(hands.marks[hand])]
                    for thing in range(riders[hand]):
                        told = [row[hand] for row in rows if places[plain_place(hands, row)] == (hand, thing)]
                        self.assertEqual(told, [carry_mark(carrier, list(last), hand, thing)])

    def test_one_thing_each_is_the_dial(self):
        for hands in telling_hands(4):
            carrier, dial = Carrier(hands, (1,) * hands.many), Dial(hands)
            self.assertEqual((dial.arcs, dial.size), (carrier.arcs, carrier.size))
            for story in product(range(hands.many), repeat=4):
                self.assertEqual(logs_of(dial, story), carry_logs(carrier, [(hand, 0) for hand in story]))

    def test_wrong_values(self):
        for value in any_values() + [(0, 4), (2, 0), (0, 0, 0), [0, True]]:
            if value != (0, 0):
                self.must_raise(Refused, value, carry_mark, PAIR, value, 9, 9)
                self.must_raise(Refused, value, carried_last, PAIR, value)
        for value in any_values() + [2]:
            self.must_raise(NoHand, value, carry_mark, PAIR, (0, 0), value, 9)
            self.must_raise(Refused, value, carry_mark, PAIR, (0, 0), 1, value)
        # Things go by the hand.
        self.must_raise(Refused, 1, carry_mark, PAIR, (0, 0), 0, 1)
        self.assertEqual(3, carry_mark(carrier=PAIR, last=(0, 0), hand=1, thing=1))
        self.assertIsNone(carried_last(carrier=Carrier(Hands((2, 4)), (1, 1)), last=(0, 3)))


def pair_stories(carrier, length):
    pairs = [(hand, thing) for hand, things in enumerate(carrier.riders) for thing in range(things)]
    return list(product(pairs, repeat=length))


class LogsAndStories(Raising, unittest.TestCase):
    def test_there_and_back(self):
        for hands, riders in CARRIERS[::3] + CARRIERS[-5:-3]:
            carrier = Carrier(hands, riders)
            left = {}
            for length in range(4):
                for story in pair_stories(carrier, length):
                    logs = carry_logs(carrier, [list(pair) for pair in story])
                    self.assertEqual(self.plain_logs(carrier, story), logs)
                    self.assertTrue(is_deep_tuple(logs))
                    self.assertNotIn(logs, left)
                    left[logs] = story
                    back = carry_story(carrier, [list(log) for log in logs])
                    self.assertEqual(story, back)
                    self.assertTrue(is_deep_tuple(back))
            if sum(hands.marks) < 9:
                for logs in all_logs(hands, 3):
                    if logs not in left:
                        self.must_raise(Refused, logs, carry_story, carrier, logs)

    def plain_logs(self, carrier, story):
        logs = [[] for _ in carrier.riders]
        last = [0] * len(logs)
        for hand, thing in story:
            last[hand] = carry_mark(carrier, last, hand, thing)
            logs[hand].append(last[hand])
        return tuple(map(tuple, logs))

    def test_long_stories(self):
        source = random.Random(7)
        for hands, riders in CARRIERS[-5:] + [(Hands(GREATEST), (2, 1, 3, 5, 1, 2))]:
            carrier = Carrier(hands, riders)
            story = []
            for _ in range(400):
                hand = source.randrange(hands.many)
                story.append((hand, source.randrange(riders[hand])))
            self.assertEqual(tuple(story), carry_story(carrier, carry_logs(carrier, story)))

    def test_no_deeds(self):
        self.assertEqual((((), ()), ()), (carry_logs(PAIR, ()), carry_story(PAIR, [[], ()])))

    def test_wrong_stories(self):
        wrong = any_values() + [(0, 1), (1, 2), (2, 0), [0], (0, 0, 0), [1, None], (True, 0), (1, False), 0]
        for value in wrong:
            if value != (0, 0):
                self.must_raise(BadStory, 1, carry_logs, PAIR, ((1, 1), value, None))
                self.must_raise(BadStory, 0, carry_logs, PAIR, [value])
            if not isinstance(value, (list, tuple)):
                self.must_raise(BadStory, -1, carry_logs, PAIR, value)
        self.must_raise(BadStory, -1, carry_logs, PAIR, [(0, 0)] * 10001)
        self.assertEqual(10000, len(carry_logs(PAIR, [(0, 0)] * 10000)[0]))

    def test_wrong_logs(self):
        for value in not_of_length(2):
            self.must_raise(BadLogs, -1, carry_story, PAIR, value)
        self.must_raise(BadLogs, 0, carry_story, PAIR, ((2,), (4,)))
        self.must_raise(BadLogs, 1, carry_story, PAIR, ((1,), (4,)))
        logs = ((0,), ())
        self.assertEqual(((0, 0),), carry_story(PAIR, logs))
        logs = ((), (1,))
        self.must_raise(Refused, logs, carry_story, PAIR, logs)


class MostRiders(Raising, unittest.TestCase):
    def test_by_trying(self):
        for hands in small_hands(4) + [Hands((60, 60)), Hands((60, 1)), Hands((2, 3, 7)), Hands((2, 3, 6))]:
            for riders in product((1, 2, 7), repeat=hands.many):
                for hand in range(hands.many):
                    goes = [0] + [
                        things for things in range(1, 61)
                        if plain_share(hands, riders[:hand] + (things,) + riders[hand + 1:]) <= 1
                    ]
                    self.assertEqual(goes[-1], most_riders(hands, list(riders), hand))

    def test_the_others_alone(self):
        self.assertEqual(0, most_riders(Hands((1, 1, 9)), (1, 1, 1), 2))
        self.assertEqual(0, most_riders(Hands((1, 9)), (1, 60), 1))
        self.assertEqual(59, most_riders(hands=Hands((60, 60)), riders=(1, 7), hand=1))

    def test_wrong_values(self):
        for value in any_values() + [2]:
            self.must_raise(NoHand, value, most_riders, PAIR.hands, (1, 1), value)

    def test_above_one_riders_cannot_be_told_for_ever(self):
        for hands in small_hands(3, (2,)):
            for riders in product((1, 2, 3), repeat=2):
                needed = [needed_numbers(hands, length, riders=riders) for length in range(0, 401, 40)]
                if plain_share(hands, riders) <= 1:
                    self.assertEqual({1}, set(needed))
                elif plain_share(hands, riders) > Fraction(11, 10):
                    self.assertGreater(needed[-1], 1)


if __name__ == "__main__":
    unittest.main()
