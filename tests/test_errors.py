"""Point 4: the errors, their bases, and what they keep."""

import unittest

from logsapart import errors
from logsapart.hands import Hands

ONE_PLACE = ("BadHands", "BadKinds", "BadStory", "BadLogs", "BadText", "Refused")


class Errors(unittest.TestCase):
    def test_bases(self):
        self.assertEqual((ValueError,), errors.LogError.__bases__)
        for name in ONE_PLACE + ("TooGreat", "NoTelling"):
            self.assertEqual((errors.LogError,), getattr(errors, name).__bases__, name)
        self.assertEqual((KeyError,), errors.NoHand.__bases__)

    def test_attributes_keep_the_very_arguments(self):
        for value in (0, -1, True, None, "a", [1, [2]], (3,), Hands((2, 2)), 10 ** 5000):
            for name in ONE_PLACE:
                kind = getattr(errors, name)
                self.assertIs(value, kind(value).at)
                self.assertIs(value, kind(at=value).at)
            self.assertIs(value, errors.TooGreat(value).most)
            self.assertIs(value, errors.TooGreat(most=value).most)
            self.assertIs(value, errors.NoHand(value).hand)
            self.assertIs(value, errors.NoHand(hand=value).hand)

    def test_two_arguments(self):
        error = errors.NoTelling(7, 6)
        self.assertEqual((7, 6), (error.top, error.bottom))
        error = errors.NoTelling(bottom=6, top=7)
        self.assertEqual((7, 6), (error.top, error.bottom))

    def test_they_are_caught_by_their_bases(self):
        with self.assertRaises(ValueError):
            raise errors.Refused(1)
        with self.assertRaises(KeyError):
            raise errors.NoHand(1)
        self.assertNotIsInstance(errors.NoHand(1), errors.LogError)


if __name__ == "__main__":
    unittest.main()
