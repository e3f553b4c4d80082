"""Points 32 and 33: markers with standings, deeds that clash, stories that leave the same logs."""

import random
import unittest
from itertools import combinations, product

from logsapart.digits import Digits, digit_logs, least_number, step
from logsapart.errors import BadLogs, BadStory, Refused, TooGreat
from logsapart.hands import Hands
from logsapart.markers import (
    Marker, clash_paper, is_reversible, marker_logs, marker_story, stories_hold, table_marker, two_stories,
)
from logsapart.tables import Table, all_lasts, dial_table, table_logs, table_mark
from support import (
    Raising, all_logs, all_stories, any_values, is_deep_tuple, not_of_length, small_hands, stories_up_to, telling_hands,
)

PAIR = Hands((2, 2))
BACK = Marker(PAIR, [((0, 0), (0, 1)), ((1, 0), (1, 1))])
PLAIN = Marker(PAIR, [((0, 0), (0, 0))])


def digits_marker(hands, number=None):
    """The marker of digits: it is reversible."""
    digits = Digits(hands, number)
    rows = []
    for place in range(digits.number):
        rows.append([step(digits, place, hand)[::-1] for hand in range(hands.many)])
    return Marker(hands, rows)


def some_marker(source, hands, standings):
    return Marker(hands, [
        [(source.randrange(marks), source.randrange(standings)) for marks in hands.marks] for _ in range(standings)
    ])


def some_markers():
    """Markers of all kinds: most of them clash, some have standings to which no story leads."""
    source = random.Random(13)
    told = [BACK, PLAIN] + [digits_marker(hands) for hands in telling_hands(4)]
    for hands in (PAIR, Hands((1, 2)), Hands((3, 2)), Hands((2, 3, 6)), Hands((1, 1))):
        told.extend(some_marker(source, hands, standings) for standings in (1, 2, 3, 5) for _ in range(12))
    return told


def plain_logs(marker, story):
    logs = [[] for _ in range(marker.hands.many)]
    standing = 0
    for hand in story:
        mark, standing = marker.rows[standing][hand]
        logs[hand].append(mark)
    return tuple(map(tuple, logs)), standing


def plain_deeds(marker):
    """All deeds, ascending, from standings that stories lead to."""
    reached = {0}
    while True:
        more = reached | {behind for standing in reached for _, behind in marker.rows[standing]}
        if more == reached:
            return [(standing, hand) for standing in sorted(reached) for hand in range(marker.hands.many)]
        reached = more


def plain_clash(marker):
    for one, other in combinations(plain_deeds(marker), 2):
        (one_mark, one_behind), (other_mark, other_behind) = (marker.rows[s][hand] for s, hand in (one, other))
        if one_behind == other_behind and (one[1] != other[1] or one_mark == other_mark):
            return ("clash", one, other)
    return None


class Markers(Raising, unittest.TestCase):
    def test_attributes(self):
        rows = [[[0, 0], [0, 1]], [(1, 0), (1, 1)]]
        marker = Marker(hands=Hands([2, 2]), rows=rows)
        self.assertEqual((PAIR, (((0, 0), (0, 1)), ((1, 0), (1, 1))), 2), (marker.hands, marker.rows, marker.standings))
        self.assertTrue(is_deep_tuple(marker.rows))
        rows[0][0][0] = 1
        self.assertEqual((0, 0), marker.rows[0][0])
        self.assertEqual(4000, Marker(PAIR, [((1, 3999), (0, 0))] * 4000).standings)

    def test_equality(self):
        self.assertTrue(BACK == Marker(Hands([2, 2]), [[(0, 0), (0, 1)], [(1, 0), (1, 1)]]))
        self.assertFalse(BACK != Marker(PAIR, BACK.rows))
        self.assertFalse(BACK == PLAIN)
        self.assertFalse(BACK == Marker(Hands((2, 3)), BACK.rows))
        for value in any_values() + [BACK.rows, dial_table(PAIR)]:
            self.assertFalse(BACK == value)

    def test_wrong_rows(self):
        good = ((0, 0), (0, 0))
        wrong = any_values() + [
            [((0, 0),)], [((0, 0),) * 3], [((0, 0), (2, 0))], [((0, 1), (0, 0))], [((0, 0), (0, -1))], [((0, 0), (0, 0, 0))],
            [((0, 0), (0,))], [((0, True), (0, 0))], [((False, 0), (0, 0))], [((0, 0), None)], [good, None], [good, ()],
            [good] * 4001, [good, ((0, 2), (0, 0))], [good, ((0, 0), "00")], good, [((0, 0), (0, None))], 1,
        ]
        for value in wrong:
            self.must_raise(Refused, value, Marker, PAIR, value)

    def test_logs(self):
        for marker in some_markers():
            for story in stories_up_to(marker.hands, 4 if marker.hands.many == 2 else 3):
                left = marker_logs(marker, list(story))
                self.assertEqual(plain_logs(marker, story), left)
                self.assertTrue(is_deep_tuple(left))
        for value in any_values() + [2]:
            self.must_raise(BadStory, 2, marker_logs, BACK, (0, 1, value))
        self.must_raise(BadStory, -1, marker_logs, BACK, "")
        self.assertEqual((((1, 0), (0,)), 0), marker_logs(marker=BACK, story=(1, 0, 0)))


class TableMarkers(Raising, unittest.TestCase):
    def test_by_their_tables(self):
        for hands in telling_hands(4) + [Hands((2, 3, 6)), Hands((5, 5, 4, 4))]:
            table = dial_table(hands)
            marker = table_marker(table)
            rows = all_lasts(hands)
            self.assertEqual((hands, len(rows)), (marker.hands, marker.standings))
            for last, row in zip(rows, marker.rows):
                for hand, (mark, behind) in enumerate(row):
                    self.assertEqual(table_mark(table, last, hand), mark)
                    self.assertEqual(last[:hand] + (mark,) + last[hand + 1:], rows[behind])
            for story in stories_up_to(hands, 3):
                self.assertEqual(table_logs(table, story), marker_logs(marker, story)[0])

    def test_the_least_marks(self):
        # Of two marks that tell a hand the marker takes the lesser one.
        marker = table_marker(Table(Hands((3, 2)), (0, 1, 0, 1, 1, 0)))
        self.assertEqual(((0, 0), (1, 3)), marker.rows[2])

    def test_bad_tables(self):
        for tells in ((0, 1, 1, None), (None,) * 4, (0, 0, 0, 0), (1, 0, 0, 0)):
            bad = Table(PAIR, tells)
            self.must_raise(Refused, bad, table_marker, bad)


class Clashes(unittest.TestCase):
    def test_by_all_two_deeds(self):
        words = []
        for marker in some_markers():
            clash = plain_clash(marker)
            self.assertEqual(clash, clash_paper(marker))
            self.assertIs(clash is None, is_reversible(marker))
            words.append(clash is None)
        self.assertGreater(min(words.count(True), words.count(False)), 20)

    def test_standings_to_which_no_story_leads(self):
        rows = [((0, 0), (0, 1)), ((1, 0), (1, 1)), ((0, 0), (0, 1))]
        self.assertIsNone(clash_paper(Marker(PAIR, rows)))
        rows[1] = ((1, 0), (1, 2))
        self.assertEqual(("clash", (0, 0), (2, 0)), clash_paper(Marker(PAIR, rows)))

    def test_of_one_hand_with_one_mark(self):
        marker = Marker(Hands((2, 60)), [((0, 0), (7, 1)), ((1, 0), (7, 1))])
        self.assertEqual(("clash", (0, 1), (1, 1)), clash_paper(marker))

    def test_not_fewer_standings_than_the_least_number(self):
        source = random.Random(14)
        for hands in small_hands(3, (2,)):
            for standings in (1, 2, 3):
                for _ in range(200):
                    if is_reversible(some_marker(source, hands, standings)):
                        self.assertGreaterEqual(standings, least_number(hands))
        for rows in product(list(product(product(range(2), range(2)), repeat=2)), repeat=2):
            if is_reversible(Marker(PAIR, rows)):
                self.assertEqual(2, least_number(PAIR))

    def test_great_markers(self):
        hands = Hands((2, 2, 60, 60))
        marker = Marker(hands, [[(standing % 2, (standing + hand) % 400) for hand in range(4)] for standing in range(400)])
        self.assertEqual(plain_clash(marker), clash_paper(marker))
        # Hand 0 leads to 0 .. 6, sixty deeds to each; hand 1 to all others.
        rows = [[(standing % 60, standing // 60), (standing // 393, 7 + standing % 393)] for standing in range(400)]
        self.assertEqual(800, len(plain_deeds(Marker(Hands((60, 60)), rows))))
        self.assertIsNone(clash_paper(Marker(Hands((60, 60)), rows)))
        rows[399][0] = (38, 6)
        self.assertEqual(("clash", (398, 0), (399, 0)), clash_paper(Marker(Hands((60, 60)), rows)))


class Reading(Raising, unittest.TestCase):
    def test_stories_of_reversible_markers(self):
        for marker in [marker for marker in some_markers() if plain_clash(marker) is None]:
            left = {}
            deeds = 4 if marker.hands.many == 2 else 3
            for story in stories_up_to(marker.hands, deeds):
                logs, standing = marker_logs(marker, story)
                self.assertNotIn((logs, standing), left)
                left[logs, standing] = story
                self.assertEqual(story, marker_story(marker, [list(log) for log in logs], standing))
            if sum(marker.hands.marks) < 8:
                for logs in all_logs(marker.hands, deeds):
                    for standing in range(marker.standings):
                        if (logs, standing) not in left:
                            self.must_raise(Refused, logs, marker_story, marker, logs, standing)

    def test_standings_to_which_no_story_leads(self):
        marker = Marker(PAIR, [((0, 0), (0, 1)), ((1, 0), (1, 1)), ((0, 0), (0, 1))])
        for logs in all_logs(PAIR, 2):
            self.must_raise(Refused, logs, marker_story, marker, logs, 2)
        self.assertEqual((0,), marker_story(marker, ((0,), ()), 0))

    def test_long_stories(self):
        source = random.Random(15)
        for hands in (Hands((2, 3, 6)), Hands((3, 3)), Hands((8,) * 8)):
            marker = digits_marker(hands, 399 if hands.many == 2 else None)
            story = tuple(source.randrange(hands.many) for _ in range(400))
            self.assertEqual(digit_logs(Digits(hands, marker.standings), story)[::-1], marker_logs(marker, story))
            self.assertEqual(story, marker_story(marker, *marker_logs(marker, story)))

    def test_errors_in_their_order(self):
        for value in any_values():
            self.must_raise(Refused, PLAIN, marker_story, PLAIN, value, value)
            self.must_raise(Refused, value, marker_story, BACK, ((1,), ()), value)
        for value in not_of_length(2):
            self.must_raise(BadLogs, -1, marker_story, BACK, value, None)
        self.must_raise(BadLogs, 1, marker_story, BACK, ((), (2,)), 2)
        self.must_raise(Refused, 2, marker_story, BACK, ((1,), ()), 2)
        logs = [(1,), ()]
        self.must_raise(Refused, logs, marker_story, BACK, logs, 1)
        self.assertEqual((1, 0), marker_story(marker=BACK, logs=((1,), (0,)), standing=0))


def plain_twins(marker, length):
    for deeds in range(length + 1):
        left = [(story, marker_logs(marker, story)[0]) for story in all_stories(marker.hands, deeds)]
        pairs = [(one, other) for (one, logs), (other, same) in combinations(left, 2) if logs == same]
        if pairs:
            return ("stories", *min(pairs))
    return None


class TwoStories(Raising, unittest.TestCase):
    def test_by_all_stories(self):
        found = []
        for marker in some_markers():
            for length in range(6 if marker.hands.many == 2 else 4):
                twins = plain_twins(marker, length)
                self.assertEqual(twins, two_stories(marker, length))
                found.append(twins is None)
                if twins is not None:
                    self.assertTrue(is_deep_tuple(twins))
                    self.assertIs(True, stories_hold(marker, twins))
                    unlike = [marker_logs(marker, story)[1] for story in twins[1:]]
                    self.assertFalse(is_reversible(marker) and unlike[0] == unlike[1])
        self.assertGreater(min(found.count(True), found.count(False)), 50)

    def test_the_least_two_are_not_the_first_met(self):
        # Of two deeds 10 and 11 leave the same logs as nothing else; of three 010 and 011 come first.
        twins = {plain_twins(marker, 5) for marker in some_markers() if marker.hands.many == 2}
        self.assertTrue(any(each is not None and len(each[1]) > 2 for each in twins))
        self.assertTrue(any(each is not None and each[1][0] == 1 for each in twins))

    def test_good_tables_leave_none_alike(self):
        for hands in telling_hands(3):
            self.assertIsNone(two_stories(table_marker(dial_table(hands)), 6 if hands.many == 2 else 4))

    def test_above_one_there_are_some(self):
        source = random.Random(16)
        for hands in (Hands((1, 2)), Hands((1, 1)), Hands((1, 3))):
            for _ in range(60):
                marker = some_marker(source, hands, source.randrange(1, 6))
                self.assertIsNotNone(two_stories(marker, 13))

    def test_most(self):
        table = table_marker(dial_table(PAIR))
        for length in range(1, 7):
            stories = 2 ** (length + 1) - 1
            self.assertIsNone(two_stories(table, length, most=stories))
            self.must_raise(TooGreat, stories - 1, two_stories, table, length, most=stories - 1)
        self.assertIsNone(two_stories(table, 13))
        self.must_raise(TooGreat, 20000, two_stories, table, 400)
        # Found among few stories, however many there are up to this length.
        self.assertEqual(("stories", (0, 1), (1, 0)), two_stories(PLAIN, 400, most=7))
        self.assertIsNone(two_stories(PLAIN, 0, most=1))
        self.assertIsNone(two_stories(marker=PLAIN, length=1))
        self.assertRaises(TypeError, two_stories, PLAIN, 1, 7)

    def test_wrong_lengths(self):
        for value in any_values() + [401, 10 ** 30]:
            self.must_raise(Refused, value, two_stories, PLAIN, value)
            self.must_raise(Refused, value, two_stories, PLAIN, value, most=1)


class Holding(unittest.TestCase):
    def test_all_two_stories(self):
        for marker in some_markers()[::5]:
            stories = stories_up_to(marker.hands, 3 if marker.hands.many == 2 else 2)
            for one, other in product(stories, repeat=2):
                plain = one != other and marker_logs(marker, one)[0] == marker_logs(marker, other)[0]
                self.assertIs(plain, stories_hold(marker, ("stories", one, other)))
                self.assertIs(plain, stories_hold(marker, ["stories", list(one), list(other)]))

    def test_forms(self):
        good = ("stories", (0, 1), (1, 0))
        self.assertIs(True, stories_hold(marker=PLAIN, value=good))
        self.assertIs(True, stories_hold(PLAIN, ("stories", [1, 0], (0, 1))))
        self.assertIs(False, stories_hold(PLAIN, ("stories", [0, 1], (0, 1))))
        for value in any_values():
            for paper in (value, ("stories", value, (1, 0)), ("stories", (0, 1), value), (value, (0, 1), (1, 0)),
                          (*good, value), good[:2], ("stories", (0, value), (value, 0)), ("stories", value, value)):
                self.assertIs(False, stories_hold(PLAIN, paper), paper)
        self.assertIs(False, stories_hold(PLAIN, ("stories", (0, 2), (2, 0))))
        self.assertIs(False, stories_hold(PLAIN, ("stories", (False, 1), (1, False))))
        self.assertIs(False, stories_hold(PLAIN, ("lines", (0, 1), (1, 0))))
        long = (0, 1) * 200
        self.assertIs(True, stories_hold(PLAIN, ("stories", long, long[::-1])))
        long = (0, 1) * 5000
        self.assertIs(True, stories_hold(PLAIN, ("stories", long, long[::-1])))
        self.assertIs(False, stories_hold(PLAIN, ("stories", (*long, 0), (0, *long[::-1]))))


if __name__ == "__main__":
    unittest.main()
