"""Points 5 and 6: hands, their share and room, hands and stories that are passed."""

import unittest
from fractions import Fraction
from math import ceil, floor

from logsapart.errors import BadHands, BadStory, NoHand, Refused
from logsapart.hands import (
    Hands, check_story, hands_more, is_telling, need_hand, need_telling, new_marks, room, share,
)
from support import Raising, any_values, fraction_share, nested, small_hands, telling_hands

OTHER_HANDS = [
    Hands(marks) for marks in (
        (60, 60), (1, 60), (2, 60), (59, 53), (2, 3, 6), (2, 3, 7), (2, 3, 7, 43), (2, 4, 8, 16, 32, 60),
        (8,) * 8, (9,) * 8, (60,) * 8, (1,) * 8, (2, 3, 7, 60, 60, 60), (53, 47, 43, 41, 37, 31, 29, 23),
    )
]


def pair(fraction):
    return (fraction.numerator, fraction.denominator)


class MakingHands(Raising, unittest.TestCase):
    def test_attributes(self):
        for marks in ([2, 3, 6], (1, 60), [60] * 8):
            hands = Hands(marks)
            self.assertEqual((tuple(marks), len(marks)), (hands.marks, hands.many))
            self.assertIs(tuple, type(hands.marks))
        self.assertEqual((2, 2), Hands(marks=(2, 2)).marks)

    def test_equality(self):
        self.assertTrue(Hands([2, 3]) == Hands((2, 3)))
        self.assertFalse(Hands([2, 3]) != Hands((2, 3)))
        self.assertFalse(Hands((2, 3)) == Hands((3, 2)))
        self.assertFalse(Hands((2, 3)) == Hands((2, 3, 6)))
        for value in any_values() + [(2, 3)]:
            if not isinstance(value, Hands):
                self.assertFalse(Hands((2, 3)) == value)

    def test_a_list_may_be_changed_afterwards(self):
        marks = [2, 3]
        hands = Hands(marks)
        marks[0] = 1
        marks.append(7)
        self.assertEqual(((2, 3), 2), (hands.marks, hands.many))

    def test_no_sequence_of_two_to_eight(self):
        for value in (None, 2, True, "23", "", (), [], (2,), [2], (2,) * 9, ["a"] * 9, Hands((2, 2)), nested(40, 2)):
            self.must_raise(BadHands, -1, Hands, value)

    def test_first_wrong_item(self):
        for wrong in (0, 61, -1, True, False, None, "2", (), [2], Hands((2, 2)), 10 ** 400, nested(39, 2)):
            for at in range(4):
                marks = [1, 60, 2, 3]
                marks[at] = wrong
                self.must_raise(BadHands, at, Hands, marks)
                self.must_raise(BadHands, at, Hands, tuple(marks[:at + 1]) + (0, None, True))


class ShareAndRoom(Raising, unittest.TestCase):
    def test_share(self):
        for hands in small_hands(6) + OTHER_HANDS:
            total = fraction_share(hands.marks)
            self.assertEqual(pair(total), share(hands))
            self.assertIs(total <= 1, is_telling(hands))

    def test_need_telling(self):
        for hands in small_hands(4) + OTHER_HANDS:
            total = fraction_share(hands.marks)
            if total <= 1:
                self.assertEqual(hands, need_telling(hands))
            else:
                self.must_lack_telling(*pair(total), need_telling, hands)

    def test_room_and_new_marks(self):
        for hands in telling_hands(7) + OTHER_HANDS:
            left = 1 - fraction_share(hands.marks)
            if left < 0:
                self.must_lack_telling(*share(hands), room, hands)
                self.must_lack_telling(*share(hands), new_marks, hands)
                continue
            self.assertEqual(pair(left), room(hands))
            if left == 0:
                self.assertEqual(((0, 1), None), (room(hands), new_marks(hands)))
            else:
                self.assertEqual(ceil(1 / left), new_marks(hands))

    def test_new_marks_above_sixty_and_beside_eight_hands(self):
        self.assertEqual(1806, new_marks(Hands((2, 3, 7, 43))))
        self.assertEqual(9, new_marks(Hands((9,) * 8)))
        self.assertIsNone(new_marks(Hands((8,) * 8)))

    def test_hands_more(self):
        for hands in telling_hands(5) + OTHER_HANDS:
            left = 1 - fraction_share(hands.marks)
            for marks in (1, 2, 3, 7, 12, 59, 60):
                if left < 0:
                    self.must_lack_telling(*share(hands), hands_more, hands, marks)
                else:
                    self.assertEqual(floor(left * marks), hands_more(hands, marks))
        self.assertEqual(0, hands_more(Hands((2, 2)), 60))
        self.assertEqual(58, hands_more(Hands((60, 60)), 60))

    def test_wrong_marks(self):
        for value in any_values() + [0, 61, 10 ** 50]:
            self.must_raise(Refused, value, hands_more, Hands((3, 3)), value)
            self.must_lack_telling(3, 2, hands_more, Hands((1, 2)), value)

    def test_share_of_just_one_is_telling(self):
        for marks in ((2, 2), (2, 3, 6), (2, 4, 4), (3, 3, 3), (8,) * 8):
            self.assertEqual((True, (1, 1), (0, 1)), (is_telling(Hands(marks)), share(Hands(marks)), room(Hands(marks))))


class PassedHandsAndStories(Raising, unittest.TestCase):
    def test_need_hand(self):
        for many in (2, 8):
            hands = Hands((8,) * many)
            for hand in range(many):
                self.assertEqual(hand, need_hand(hands, hand))
            for value in any_values() + [many, many + 1, 10 ** 30]:
                self.must_raise(NoHand, value, need_hand, hands, value)

    def test_check_story(self):
        hands = Hands((2, 3, 6))
        self.assertEqual((), check_story(hands, []))
        self.assertEqual((0, 2, 1, 1, 0), check_story(hands, [0, 2, 1, 1, 0]))
        self.assertEqual((1, 0), check_story(hands=hands, value=(1, 0)))
        self.assertEqual((2,) * 10000, check_story(hands, [2] * 10000))

    def test_wrong_stories(self):
        hands = Hands((2, 3, 6))
        for value in any_values():
            if not isinstance(value, (list, tuple)):
                self.must_raise(BadStory, -1, check_story, hands, value)
        self.must_raise(BadStory, -1, check_story, hands, [0] * 10001)
        self.must_raise(BadStory, -1, check_story, hands, [None] * 10001)
        for wrong in any_values() + [3, 10 ** 40]:
            for at in range(3):
                story = [0, 1, 2]
                story[at] = wrong
                self.must_raise(BadStory, at, check_story, hands, story + [None])

    def test_a_story_may_be_changed_afterwards(self):
        story = [0, 1]
        checked = check_story(Hands((2, 2)), story)
        story.append(7)
        self.assertEqual((0, 1), checked)


if __name__ == "__main__":
    unittest.main()
