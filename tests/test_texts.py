"""Point 8: texts, and how they are read."""

import unittest

from logsapart.errors import BadLogs, BadStory, BadText
from logsapart.hands import Hands
from logsapart.texts import hands_text, logs_text, read_hands, read_logs, read_story, story_text
from support import Raising, all_logs, any_values, small_hands, stories_up_to

THREE = Hands((2, 3, 6))
EIGHT = Hands((60,) * 8)


class Writing(Raising, unittest.TestCase):
    def test_lines(self):
        self.assertEqual("hands 2 3 6", hands_text(THREE))
        self.assertEqual("hands 60 60 60 60 60 60 60 60", hands_text(EIGHT))
        self.assertEqual("-", story_text(THREE, ()))
        self.assertEqual("0", story_text(THREE, [0]))
        self.assertEqual("0 2 1", story_text(THREE, [0, 2, 1]))
        self.assertEqual("-\n-\n-", logs_text(THREE, [(), [], ()]))
        self.assertEqual("0 1\n-\n5 0 3", logs_text(hands=THREE, logs=[[0, 1], [], [5, 0, 3]]))

    def test_wrong_values(self):
        self.must_raise(BadStory, 1, story_text, THREE, (0, 3))
        self.must_raise(BadStory, -1, story_text, THREE, "0 1")
        self.must_raise(BadLogs, 1, logs_text, THREE, ((), (3,), None))
        self.must_raise(BadLogs, -1, logs_text, THREE, "-\n-\n-")


class ThereAndBack(unittest.TestCase):
    def test_hands(self):
        for hands in small_hands(5) + [EIGHT, Hands((1, 60)), Hands((10, 20, 30))]:
            self.assertEqual(hands, read_hands(hands_text(hands)))

    def test_stories(self):
        for hands in (Hands((2, 2)), THREE):
            for story in stories_up_to(hands, 4):
                self.assertEqual(story, read_story(hands, story_text(hands, story)))
        self.assertEqual((7,) * 10000, read_story(EIGHT, story_text(EIGHT, [7] * 10000)))

    def test_logs(self):
        for hands in (Hands((2, 2)), Hands((1, 3)), THREE):
            for logs in all_logs(hands, 3):
                self.assertEqual(logs, read_logs(hands, logs_text(hands, logs)))
        long = ((59,) * 10000,) * 8
        self.assertEqual(long, read_logs(EIGHT, logs_text(EIGHT, long)))

    def test_by_names(self):
        self.assertEqual(THREE, read_hands(text="hands 2 3 6"))
        self.assertEqual((1,), read_story(hands=THREE, text="1"))
        self.assertEqual(((), (2,), ()), read_logs(hands=THREE, text="-\n2\n-"))


class WrongTexts(Raising, unittest.TestCase):
    def test_no_string(self):
        for value in any_values():
            if not isinstance(value, str):
                self.must_raise(BadText, 0, read_hands, value)
                self.must_raise(BadText, 0, read_story, THREE, value)
                self.must_raise(BadText, 0, read_logs, THREE, value)

    def test_hands(self):
        wrong = [
            "", "-", "hands", "hands ", "hands -", "hands 2", "2 3", "Hands 2 3", "hands 2  3", "hands  2 3",
            " hands 2 3", "hands 2 3 ", "hands 2 3\n", "hands 02 3", "hands 2 0", "hands 2 61", "hands 2 -3", "hands +2 3",
            "hands 2,3", "hands\t2 3", "hands 2\t3", "hands 2 3.0", "hands 2 \u00b2", "hands 2 \u0663", "hands 2 3 a",
            "hands 2 3\u00a04", "hands 2 1_0", "hand 2 3", "hands 2 " + "9" * 5000, "hands" + " 2" * 9, "\nhands 2 3",
        ]
        for text in wrong:
            self.must_raise(BadText, 1, read_hands, text)

    def test_stories(self):
        wrong = [
            ("", 0), (" ", 0), ("0 ", 1), (" 0", 0), ("0  1", 1), ("3", 0), ("0 1 2 3 9", 3), ("00", 0), ("0 01", 1),
            ("- 0", 0), ("0 -", 1), ("--", 0), ("0 1\n", 1), ("0\n1", 0), ("0\t1", 0), ("0 x", 1), ("0 -1", 1), ("0 +1", 1),
            ("0 \u0661", 1), ("1 " + "1" * 5000, 1), ("-\n", 0), ("\n", 0), ("0 1 2 ", 3),
        ]
        for text, at in wrong:
            self.must_raise(BadText, at, read_story, THREE, text)

    def test_one_word_too_many(self):
        most = ["0"] * 10000
        self.assertEqual((0,) * 10000, read_story(THREE, " ".join(most)))
        self.must_raise(BadText, 10000, read_story, THREE, " ".join(most + ["0"]))
        self.must_raise(BadText, 10000, read_story, THREE, " ".join(most + ["x"]))
        self.must_raise(BadText, 10000, read_story, THREE, " ".join(most + ["0", "x"]))
        self.must_raise(BadText, 9999, read_story, THREE, " ".join(most[1:] + ["x", "0", "0"]))

    def test_logs(self):
        wrong = [
            ("", 1), ("-", 2), ("-\n-", 3), ("-\n-\n-\n", 4), ("-\n-\n-\n-", 4), ("-\n-\n-\n\n\n", 4), ("-\n\n-", 2),
            ("0 1\n2\n6", 3), ("2\n2\n5", 1), ("0\n3\n6", 2), ("0\n2\n5 \n", 3), ("0\n2\n 5", 3), ("0  1\n-\n-", 1),
            ("0\n02\n-", 2), ("0\n- -\n-", 2), ("- 0\n-\n-", 1), ("0\r\n-\n-", 1), ("0 x\n-", 1), ("0\nx", 2),
            ("0\x0b1\n-\n-", 1), ("0\u2028-\n-\n-", 1), ("-\n-\nx\n-", 3), ("0\n1\n\u0665", 3), ("-1\n-\n-", 1),
        ]
        for text, at in wrong:
            self.must_raise(BadText, at, read_logs, THREE, text)

    def test_logs_one_entry_too_long(self):
        long = " ".join(["0"] * 10001)
        self.must_raise(BadText, 1, read_logs, THREE, long + "\n-\n-")
        self.must_raise(BadText, 3, read_logs, THREE, "-\n-\n" + long)


if __name__ == "__main__":
    unittest.main()
