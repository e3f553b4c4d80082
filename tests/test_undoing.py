"""Points 22 and 23: desks that undo deeds by their marks, and places that fit logs."""

import random
import unittest
from itertools import product

from logsapart.digits import Digits, digit_logs, digit_story, step, step_back
from logsapart.errors import BadLogs, NoHand, Refused
from logsapart.hands import Hands, share
from logsapart.undoing import UndoDesk, fitting_places
from support import (
    Raising, all_logs, any_values, fraction_share, is_deep_tuple, not_of_length, small_hands, stories_up_to,
    telling_hands,
)

SIX = Hands((2, 3, 6))


def state(desk):
    return (desk.digits.hands.marks, desk.digits.number, desk.place, desk.deeds)


def desks():
    """(hands, number) of several desks; in the last ones some places are in no stretch."""
    return [(hands, None) for hands in telling_hands(4)] + [
        (Hands((3, 3)), 4), (Hands((2, 4)), 11), (Hands((3, 3)), 7), (Hands((60, 60)), 29), (Hands((4, 4, 5)), 2000),
    ]


class MakingDesks(Raising, unittest.TestCase):
    def test_attributes_and_errors(self):
        for hands, number in desks():
            desk = UndoDesk(hands, number)
            self.assertEqual(Digits(hands, number), desk.digits)
            self.assertEqual((0, 0, None), (desk.place, desk.deeds, desk.who_undoes()))
        self.assertEqual(6, UndoDesk(hands=SIX, number=6).digits.number)
        for value in any_values() + [0, 1, 5, 7]:
            if value is not None:
                self.must_raise(Refused, value, UndoDesk, SIX, value)
        for hands in small_hands(4):
            if fraction_share(hands.marks) > 1:
                for number in (None, 6, "6"):
                    self.must_lack_telling(*share(hands), UndoDesk, hands, number)


class Undoing(Raising, unittest.TestCase):
    def test_deeds_are_undone_one_by_one(self):
        for hands, number in desks():
            for story in stories_up_to(hands, 4):
                desk = UndoDesk(hands, number)
                kept = [[] for _ in range(hands.many)]
                places = []
                for hand in story:
                    places.append(desk.place)
                    kept[hand].append(desk.act(hand))
                    self.assertEqual((hand, len(places)), (desk.who_undoes(), desk.deeds))
                self.assertEqual(digit_logs(desk.digits, story), (desk.place, tuple(map(tuple, kept))))
                for hand in reversed(story):
                    self.assertEqual(hand, desk.who_undoes())
                    self.assertEqual(hand, desk.undo(kept[hand].pop()))
                    self.assertEqual(places.pop(), desk.place)
                self.assertEqual((0, 0, None), (desk.place, desk.deeds, desk.who_undoes()))

    def test_anything_in_any_order(self):
        source = random.Random(5)
        for hands, number in desks():
            desk = UndoDesk(hands, number)
            place, deeds = 0, 0
            for _ in range(300):
                hand = source.randrange(hands.many)
                mark = source.randrange(max(hands.marks) + 1)
                if source.randrange(5) < 3:
                    place, kept = step(desk.digits, place, hand)
                    deeds += 1
                    self.assertEqual(kept, desk.act(hand))
                elif deeds == 0:
                    self.must_raise(Refused, mark, desk.undo, mark)
                else:
                    place, deeds = self.undo_plainly(desk, place, mark, deeds)
                self.assertEqual((place, deeds), (desk.place, desk.deeds))

    def undo_plainly(self, desk, place, mark, deeds):
        """Undoes by any mark, held against a step back; (place, deeds) behind it."""
        try:
            hand, ahead = step_back(desk.digits, place, mark)
        except Refused as error:
            self.must_raise(Refused, error.at, desk.undo, mark)
            return place, deeds
        self.assertEqual(hand, desk.undo(mark))
        return ahead, deeds - 1

    def test_a_wrong_mark_that_leads_to_a_place(self):
        desk = UndoDesk(SIX)
        self.assertEqual([0, 0], [desk.act(2), desk.act(0) - 1])
        self.assertEqual((2, 0), (desk.place, desk.who_undoes()))
        # The mark was 1; by 0 the place comes to 4, which tells another hand than acted first.
        self.assertEqual((0, 4, 1, 1), (desk.undo(0), desk.place, desk.deeds, desk.who_undoes()))
        self.assertEqual((0, 0), (desk.act(0), desk.undo(0)))
        self.assertEqual((1, 3, 0), (desk.undo(0), desk.place, desk.deeds))
        # The place is in a stretch, but nothing is left to be undone.
        self.assertIsNone(desk.who_undoes())
        self.must_raise(Refused, 0, desk.undo, 0)
        self.assertEqual((1, 2), (desk.act(0), desk.act(2) + 1))

    def test_a_place_in_no_stretch(self):
        desk = UndoDesk(Hands((2, 4)), 11)
        self.assertEqual(((0, 6), (6, 9)), desk.digits.stretches)
        for _ in range(3):
            desk.act(1)
        # The right marks would have been 3, 2, 0.
        self.assertEqual((7, 1, 5), (desk.place, desk.undo(1), desk.place))
        self.assertEqual((0, 0, 10, 1), (desk.who_undoes(), desk.undo(0), desk.place, desk.deeds))
        self.assertIsNone(desk.who_undoes())
        before = state(desk)
        for mark in (0, 1, None, "0"):
            self.must_raise(Refused, 10, desk.undo, mark)
        self.assertEqual(before, state(desk))

    def test_wrong_values_change_nothing(self):
        desk = UndoDesk(SIX)
        for value in any_values() + [3, 10 ** 30]:
            self.must_raise(Refused, value, desk.undo, value)
            self.must_raise(NoHand, value, desk.act, value)
        self.must_raise(Refused, 0, desk.undo, 0)
        self.assertEqual(((2, 3, 6), 6, 0, 0), state(desk))
        desk.act(hand=1)
        before = state(desk)
        for value in any_values() + [3, 6, 10 ** 30]:
            self.must_raise(Refused, value, desk.undo, value)
            self.must_raise(NoHand, value, desk.act, value)
            self.assertEqual(before, state(desk))
        desk = UndoDesk(Hands((3, 3)))
        desk.act(0)
        # A mark of the hand that leads to no place.
        self.must_raise(Refused, 2, desk.undo, 2)
        self.assertEqual(0, desk.undo(mark=0))

    def test_many_deeds(self):
        source = random.Random(1)
        desk = UndoDesk(Hands((8,) * 8), 999999992)
        kept = []
        for _ in range(2000):
            hand = source.randrange(8)
            kept.append((hand, desk.act(hand)))
        for hand, mark in reversed(kept):
            self.assertEqual(hand, desk.undo(mark))
        self.assertEqual((0, 0), (desk.place, desk.deeds))


def plain_fitting(digits, logs, place):
    """The places behind all stories with as many deeds of each hand that leave these logs."""
    deeds = [hand for hand, log in enumerate(logs) for _ in log]
    found = set()
    for story in set(product(range(len(logs)), repeat=len(deeds))):
        if sorted(story) == deeds:
            behind, left = digit_logs(digits, story, place)
            if left == logs:
                found.add(behind)
    return tuple(sorted(found))


class FittingPlaces(Raising, unittest.TestCase):
    def test_by_all_stories(self):
        several = 0
        for digits in (Digits(SIX), Digits(Hands((3, 3))), Digits(Hands((2, 4)), 11), Digits(Hands((2, 2)), 4)):
            for logs in all_logs(digits.hands, 4 if digits.hands.many == 2 else 3):
                for place in {0, 1, digits.number - 1}:
                    fitting = fitting_places(digits, logs, place)
                    self.assertEqual(plain_fitting(digits, logs, place), fitting)
                    several += len(fitting) > 1
        self.assertGreater(several, 0)

    def test_a_place_that_fits_leads_back(self):
        for hands, number in desks():
            digits = Digits(hands, number)
            for story in stories_up_to(hands, 3):
                behind, logs = digit_logs(digits, story)
                fitting = fitting_places(digits, [list(log) for log in logs])
                self.assertTrue(is_deep_tuple(fitting))
                self.assertIn(behind, fitting)
                for place in fitting:
                    back, ahead = digit_story(digits, place, logs)
                    self.assertEqual((len(story), 0), (len(back), ahead))

    def test_no_entries(self):
        digits = Digits(Hands((2, 4)), 11)
        for place in range(11):
            self.assertEqual((place,), fitting_places(digits, ((), ()), place))
        self.assertEqual((0,), fitting_places(digits=digits, logs=((), ())))

    def test_to_the_limit(self):
        source = random.Random(2)
        for hands, number in ((SIX, 1998), (Hands((8,) * 8), 2000), (Hands((2, 4)), 2000)):
            digits = Digits(hands, number)
            story = [source.randrange(hands.many) for _ in range(100)]
            behind, logs = digit_logs(digits, story, 7)
            fitting = fitting_places(digits, logs, 7)
            self.assertIn(behind, fitting)
            self.assertEqual(fitting, tuple(
                place for place in range(digits.number)
                if (len(digit_story(digits, place, logs)[0]), digit_story(digits, place, logs)[1]) == (100, 7)
            ))

    def test_wrong_values(self):
        digits = Digits(SIX)
        for value in any_values() + [6, 10 ** 20]:
            self.must_raise(Refused, value, fitting_places, digits, ((), (), ()), value)
        for value in not_of_length(3):
            self.must_raise(BadLogs, -1, fitting_places, digits, value, None)
        for value in any_values():
            self.must_raise(BadLogs, 1, fitting_places, digits, ((1,), (value,), None), None)
        self.must_raise(BadLogs, 0, fitting_places, digits, ((2,), (), ()), 6)
        self.must_raise(BadLogs, 2, fitting_places, digits, ((), (), (6,)))


if __name__ == "__main__":
    unittest.main()
