"""Points 14 and 15: dials, their arcs, marks by them, and the desk that hears deeds."""

import unittest
from itertools import product
from math import lcm

from logsapart.dials import Dial, DialDesk, dial_place, logs_of, mark_of, who_last
from logsapart.errors import BadStory, NoHand, Refused, TooGreat
from logsapart.hands import Hands, share
from support import Raising, any_values, fraction_share, is_deep_tuple, small_hands, stories_up_to, telling_hands

SIX = Dial(Hands((2, 3, 6)))
# The greatest size to 10 ** 9 of all hands whose share is at most 1, and the least one above.
GREATEST = (11, 17, 43, 47, 49, 54)
TOO_GREAT = (7, 31, 37, 47, 50, 53)


def dials():
    return [Dial(hands) for hands in telling_hands(6) + [Hands((4, 4, 4, 4)), Hands((5, 7, 2, 60))]]


def plain_place(hands, last):
    """The place in parts of the whole dial, as a fraction's top over the product of all marks."""
    size = lcm(*hands.marks)
    return sum(mark * (size // k) for mark, k in zip(last, hands.marks)) % size


def plain_arcs(hands):
    size = lcm(*hands.marks)
    return {
        sum(size // k for k in hands.marks[:hand]) + place: hand
        for hand, marks in enumerate(hands.marks) for place in range(size // marks)
    }


class MakingDials(Raising, unittest.TestCase):
    def test_attributes(self):
        for dial in dials():
            self.assertEqual(lcm(*dial.hands.marks), dial.size)
            told = {place: hand for hand, (first, behind) in enumerate(dial.arcs) for place in range(first, behind)}
            self.assertEqual(plain_arcs(dial.hands), told)
            self.assertTrue(is_deep_tuple(dial.arcs))
        self.assertEqual(Hands((2, 3, 6)), SIX.hands)

    def test_equality(self):
        self.assertTrue(Dial(Hands((2, 3))) == Dial(Hands([2, 3])))
        self.assertFalse(Dial(Hands((2, 3))) == Dial(Hands((3, 2))))
        self.assertFalse(Dial(Hands((2, 3))) != Dial(hands=Hands([2, 3])))
        for value in any_values():
            self.assertFalse(Dial(Hands((2, 2))) == value)
        self.assertFalse(Hands((2, 2)) == Dial(Hands((2, 2))))

    def test_share_above_one(self):
        for hands in small_hands(5):
            if fraction_share(hands.marks) > 1:
                self.must_lack_telling(*share(hands), Dial, hands)
                self.must_lack_telling(*share(hands), DialDesk, hands)

    def test_size(self):
        dial = Dial(Hands(GREATEST))
        self.assertEqual((999994842, 999994842), (dial.size, lcm(*GREATEST)))
        story = (0, 5, 3, 3, 1, 2, 4, 0, 5, 5)
        last = [0] * 6
        for hand in story:
            last[hand] = mark_of(dial, last, hand)
            self.assertEqual(hand, who_last(dial, last))
        self.assertGreater(lcm(*TOO_GREAT), 10 ** 9)
        self.must_raise(TooGreat, 1000000000, Dial, Hands(TOO_GREAT))
        self.must_raise(TooGreat, 1000000000, DialDesk, Hands(TOO_GREAT))
        # The share is looked at first.
        self.must_lack_telling(*share(Hands((1, 60, 59, 58, 57, 53, 49))), Dial, Hands((1, 60, 59, 58, 57, 53, 49)))


class LastMarks(Raising, unittest.TestCase):
    def test_place_and_hand(self):
        for dial in dials():
            arcs = plain_arcs(dial.hands)
            for last in product(*[range(k) for k in dial.hands.marks]):
                place = plain_place(dial.hands, last)
                self.assertEqual(place, dial_place(dial, list(last)))
                self.assertEqual(arcs.get(place), who_last(dial, last))

    def test_no_arc(self):
        self.assertIsNone(who_last(Dial(Hands([2, 4])), (1, 1)))
        self.assertIsNone(who_last(Dial(Hands([60, 60])), (1, 1)))

    def test_share_of_one_has_no_place_without_a_hand(self):
        for dial in dials():
            places = {hand for hand in range(dial.size)} - set(plain_arcs(dial.hands))
            self.assertEqual(fraction_share(dial.hands.marks) == 1, not places)

    def test_wrong_last_marks(self):
        wrong = any_values() + [
            (0, 0), (0, 0, 0, 0), (2, 0, 0), (0, 3, 0), [0, 0, 6], (0, 0, -1), (0, True, 0), (False, 0, 0), (0, None, 0),
            (0, 0, "0"), ([0], 0, 0),
        ]
        for value in wrong:
            self.must_raise(Refused, value, dial_place, SIX, value)
            self.must_raise(Refused, value, who_last, SIX, value)
            self.must_raise(Refused, value, mark_of, SIX, value, 9)


class Marking(Raising, unittest.TestCase):
    def test_the_one_mark_by_trying_all(self):
        for dial in dials():
            arcs = plain_arcs(dial.hands)
            for last in product(*[range(k) for k in dial.hands.marks]):
                for hand, marks in enumerate(dial.hands.marks):
                    rows = [last[:hand] + (mark,) + last[hand + 1:] for mark in range(marks)]
                    right = [row[hand] for row in rows if arcs.get(plain_place(dial.hands, row)) == hand]
                    self.assertEqual([mark_of(dial, last, hand)], right)

    def test_stories(self):
        for dial in dials()[::5]:
            for story in stories_up_to(dial.hands, 4):
                last = [0] * dial.hands.many
                logs = [[] for _ in last]
                for hand in story:
                    last[hand] = mark_of(dial, last, hand)
                    logs[hand].append(last[hand])
                    self.assertEqual(hand, who_last(dial, last))
                told = logs_of(dial, list(story))
                self.assertEqual(tuple(map(tuple, logs)), told)
                self.assertTrue(is_deep_tuple(told))

    def test_long_story(self):
        dial = Dial(Hands((8,) * 8))
        story = [(3 * deed * deed + deed) % 8 for deed in range(400)]
        self.assertEqual(400, sum(map(len, logs_of(dial, story))))

    def test_wrong_hands_and_stories(self):
        for value in any_values() + [3, 10 ** 30]:
            self.must_raise(NoHand, value, mark_of, SIX, (0, 0, 0), value)
        self.must_raise(BadStory, -1, logs_of, SIX, None)
        self.must_raise(BadStory, 1, logs_of, SIX, (0, 3, None))

    def test_alike_marks_turn_by_single_places(self):
        for many in range(2, 9):
            dial = Dial(Hands((many,) * many))
            self.assertEqual(many, dial.size)
            self.assertEqual(tuple((hand, hand + 1) for hand in range(many)), dial.arcs)


class Desks(Raising, unittest.TestCase):
    def test_attributes_at_first(self):
        desk = DialDesk(hands=Hands((2, 3, 6)))
        self.assertEqual((SIX, (0, 0, 0), 0, None), (desk.dial, desk.last, desk.deeds, desk.who()))

    def test_hears_as_logs_are_laid(self):
        for hands in (Hands((2, 2)), Hands((2, 4)), Hands((2, 3, 6)), Hands((4, 4, 3))):
            for story in stories_up_to(hands, 5):
                desk = DialDesk(hands)
                logs = [[] for _ in range(hands.many)]
                for deeds, hand in enumerate(story):
                    logs[hand].append(desk.act(hand))
                    self.assertEqual((hand, deeds + 1), (desk.who(), desk.deeds))
                    self.assertEqual(tuple(log[-1] if log else 0 for log in logs), desk.last)
                    self.assertIs(tuple, type(desk.last))
                self.assertEqual(logs_of(Dial(hands), story), tuple(map(tuple, logs)))

    def test_what_raises_is_not_heard(self):
        desk = DialDesk(Hands((2, 3, 6)))
        for heard in range(2):
            kept = (desk.last, desk.deeds, desk.who())
            for value in any_values() + [3]:
                self.must_raise(NoHand, value, desk.act, value)
                self.assertEqual(kept, (desk.last, desk.deeds, desk.who()))
            desk.act(2)

    def test_no_hand_though_the_place_is_in_an_arc(self):
        desk = DialDesk(Hands((2, 2)))
        self.assertEqual((0, None), (who_last(desk.dial, desk.last), desk.who()))
        self.assertEqual((0, 0), (desk.act(hand=0), desk.who()))

    def test_many_deeds(self):
        desk = DialDesk(Hands((8,) * 8))
        for deed in range(10000):
            hand = deed * deed % 7
            desk.act(hand)
            self.assertEqual(hand, desk.who())
        self.assertEqual(10000, desk.deeds)


if __name__ == "__main__":
    unittest.main()
