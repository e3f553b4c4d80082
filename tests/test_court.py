"""Points 10 to 13: where marks fail, papers, books, twins and crowds."""

import random
import unittest
from itertools import product
from math import ceil

from logsapart.court import (
    alike_stories, book_logs, court_holds, court_paper, crowd_bound, crowd_number, least_failing, twin_stories,
)
from logsapart.dials import Dial, logs_of
from logsapart.errors import BadStory, Refused, TooGreat
from logsapart.hands import Hands, share
from support import (
    Raising, all_stories, any_values, counts_of, fraction_share, is_deep_tuple, plain_ratio, small_hands, stories_up_to,
)

PAIR = Hands((2, 2))
THREE = Hands((2, 2, 3))
# Of many tries the share least above 1.
CLOSE = Hands((33, 7, 35, 51, 27, 2, 5, 24))


def plain_failing(hands, most):
    for deeds in range(1, most + 1):
        if any(plain_ratio(hands, counts) > 1 for counts in counts_of(hands.many, deeds)):
            return deeds
    return None


class WhereMarksFail(Raising, unittest.TestCase):
    def test_least_failing_by_all_counts(self):
        for hands in small_hands(4):
            if fraction_share(hands.marks) <= 1:
                self.assertIsNone(least_failing(hands))
                self.assertIsNone(least_failing(hands, most=1))
                continue
            least = least_failing(hands, most=3000)
            if least > 10:
                self.assertIsNone(plain_failing(hands, 10))
            else:
                self.assertEqual(plain_failing(hands, 10), least)

    def test_marks_two_two_two(self):
        self.assertEqual(6, least_failing(Hands((2, 2, 2))))

    def test_most_at_the_answer_and_one_below(self):
        for hands in [Hands((1, 1)), Hands((1, 60)), THREE, Hands((2, 3, 7, 42, 60)), Hands((1,) * 8)]:
            least = least_failing(hands, most=3000)
            self.assertEqual(least, least_failing(hands, most=least))
            self.assertEqual(least, sum(court_paper(hands, most=least)[1]))
            if least > 1:
                self.must_raise(TooGreat, least - 1, least_failing, hands, most=least - 1)
                self.must_raise(TooGreat, least - 1, court_paper, hands, most=least - 1)

    def test_beyond_most(self):
        self.must_raise(TooGreat, 3000, least_failing, CLOSE, most=3000)
        self.must_raise(TooGreat, 400, least_failing, CLOSE)
        self.must_raise(TooGreat, 400, court_paper, Hands((2, 3, 7, 42, 60)))
        self.assertRaises(TypeError, least_failing, THREE, 400)
        self.assertRaises(TypeError, court_paper, THREE, 400)

    def test_papers_hold(self):
        for hands in small_hands(5) + [Hands((8,) * 8), Hands((60,) * 8), Hands((7,) * 8)]:
            if fraction_share(hands.marks) <= 1:
                paper = court_paper(hands)
                self.assertEqual(("tells", share(hands)), paper)
            else:
                paper = court_paper(hands, most=3000)
                self.assertEqual("more", paper[0])
                self.assertGreater(plain_ratio(hands, paper[1]), 1)
                self.assertEqual(least_failing(hands, most=3000), sum(paper[1]))
            self.assertTrue(is_deep_tuple(paper))
            self.assertIs(True, court_holds(hands, paper))
            self.assertIs(True, court_holds(hands, [paper[0], list(paper[1])]))


class Holding(unittest.TestCase):
    def test_any_counts(self):
        for hands in small_hands(3):
            for deeds in range(8):
                for counts in counts_of(hands.many, deeds):
                    self.assertIs(plain_ratio(hands, counts) > 1, court_holds(hands, ("more", counts)))

    def test_together_at_most_3000(self):
        hands = Hands((1, 1))
        self.assertIs(True, court_holds(hands, ("more", (1500, 1500))))
        self.assertIs(False, court_holds(hands, ("more", (1500, 1501))))
        self.assertIs(False, court_holds(hands, ("more", (3000, 0))))
        self.assertIs(False, court_holds(hands, ("more", (10 ** 40, 1))))

    def test_shares(self):
        self.assertIs(True, court_holds(PAIR, ["tells", [1, 1]]))
        self.assertIs(True, court_holds(Hands((2, 3)), ("tells", (5, 6))))
        self.assertIs(False, court_holds(Hands((2, 3)), ("tells", (10, 12))))
        self.assertIs(False, court_holds(THREE, ("tells", share(THREE))))
        self.assertIs(False, court_holds(PAIR, ("tells", (True, True))))
        self.assertIs(False, court_holds(PAIR, ("tells", (1, True))))
        self.assertIs(False, court_holds(PAIR, ("tells", (1, 1, 1))))
        self.assertIs(False, court_holds(PAIR, ("tells", (1,))))
        self.assertIs(False, court_holds(PAIR, ("tells",)))
        self.assertIs(False, court_holds(PAIR, ("tells", (1, 1), ())))
        self.assertIs(False, court_holds(PAIR, ("more", (1, 1))))

    def test_any_value(self):
        many = Hands((1, 1))
        for value in any_values():
            for each in (value, ("tells", value), ["more", value], (value, (1, 1)), ("more", (value, 1)), (value,) * 2):
                self.assertIs(False, court_holds(PAIR, each))
                self.assertIs(False, court_holds(many, each))
        self.assertIs(True, court_holds(many, ("more", (1, 1))))
        self.assertIs(False, court_holds(many, ("more", (True, 1))))
        self.assertIs(False, court_holds(many, ("more", (1, 1, 0))))


class Bounds(Raising, unittest.TestCase):
    def test_by_all_counts(self):
        for hands in small_hands(3):
            for length in range(9):
                best = max(plain_ratio(hands, counts) for counts in counts_of(hands.many, length))
                self.assertEqual(ceil(best), crowd_bound(hands, length))

    def test_the_limit(self):
        self.assertEqual(1, crowd_bound(PAIR, 60))
        self.assertGreater(crowd_bound(Hands((1,) * 8), 60), 8 ** 50 // 10 ** 8)
        for value in any_values() + [61, 400, 10 ** 20]:
            self.must_raise(Refused, value, crowd_bound, THREE, value)


def some_book(hands, length, seed):
    source = random.Random(seed)
    return [
        [source.randrange(hands.marks[story[-1]]) for story in all_stories(hands, deeds)]
        for deeds in range(1, length + 1)
    ]


def books():
    """(hands, book) of several kinds."""
    told = []
    for hands in (PAIR, Hands((1, 2)), Hands((3, 1)), THREE, Hands((1, 1, 1)), Hands((2, 3, 6))):
        for seed in range(12):
            told.append((hands, some_book(hands, seed % 4 + 1, seed)))
    return told


def all_books(hands, length):
    """All books of hands as far as a length."""
    rows = []
    for deeds in range(1, length + 1):
        rows.append(list(product(*[range(hands.marks[story[-1]]) for story in all_stories(hands, deeds)])))
    return list(product(*rows))


def plain_logs(hands, book, story):
    logs = [[] for _ in range(hands.many)]
    for deeds in range(1, len(story) + 1):
        begun = story[:deeds]
        logs[begun[-1]].append(book[deeds - 1][all_stories(hands, deeds).index(begun)])
    return tuple(map(tuple, logs))


def plain_crowds(hands, book, length):
    crowds = {}
    for story in all_stories(hands, length):
        crowds.setdefault(plain_logs(hands, book, story), []).append(story)
    return crowds


class Books(Raising, unittest.TestCase):
    def test_against_a_plain_look(self):
        for hands, book in books():
            twins = None
            for length in range(len(book) + 1):
                crowds = plain_crowds(hands, book, length)
                for logs, crowd in crowds.items():
                    for story in crowd:
                        self.assertEqual(logs, book_logs(hands, book, list(story)))
                        self.assertEqual(tuple(crowd), alike_stories(hands, book, story))
                self.assertEqual(max(map(len, crowds.values())), crowd_number(hands, book, length))
                pairs = [tuple(crowd[:2]) for crowd in crowds.values() if len(crowd) > 1]
                if twins is None and pairs:
                    twins = min(pairs)
            self.assertEqual(twins, twin_stories(hands, book))

    def test_the_last_hand_and_the_twins(self):
        for hands, length in ((PAIR, 2), (Hands((1, 2)), 3), (Hands((2, 1)), 2), (Hands((1, 1)), 3)):
            for book in all_books(hands, length):
                twins = twin_stories(hands, book)
                crowds = [c for deeds in range(1, length + 1) for c in plain_crowds(hands, book, deeds).values()]
                self.assertEqual(all(len({story[-1] for story in crowd}) == 1 for crowd in crowds), twins is None)
                if twins is not None:
                    self.assertNotEqual(twins[0][-1], twins[1][-1])

    def test_twins_end_unlike(self):
        for hands, book in books():
            twins = twin_stories(hands, book)
            if twins is not None:
                self.assertNotEqual(twins[0][-1], twins[1][-1])
                self.assertLess(twins[0], twins[1])
                self.assertIn(twins[1], alike_stories(hands, book, twins[0]))

    def test_crowds_are_not_below_their_bound(self):
        for hands, book in books():
            for length in range(len(book) + 1):
                self.assertGreaterEqual(crowd_number(hands, book, length), crowd_bound(hands, length))

    def test_tuples(self):
        book = [[0, 0], [0, 0, 0, 0]]
        self.assertTrue(is_deep_tuple(book_logs(PAIR, book, [0, 1])))
        self.assertEqual(((0, 1), (1, 0)), alike_stories(PAIR, book, [1, 0]))
        self.assertTrue(is_deep_tuple(twin_stories(PAIR, book)))
        self.assertEqual([[0, 0], [0, 0, 0, 0]], book)

    def test_empty_stories(self):
        book = ((0, 0),)
        self.assertEqual((((), ()), ((),), 1), (
            book_logs(PAIR, book, ()), alike_stories(PAIR, book, ()), crowd_number(PAIR, book, 0),
        ))

    def test_up_to_5000_stories(self):
        book = [[1] * 2 ** deeds for deeds in range(1, 13)]
        self.assertEqual(924, crowd_number(PAIR, book, 12))
        self.assertEqual(924, len(alike_stories(PAIR, book, (0, 1) * 6)))
        self.assertEqual(((0, 1), (1, 0)), twin_stories(PAIR, book))
        book.append([1] * 2 ** 13)
        self.must_raise(Refused, book, twin_stories, PAIR, book)
        eight = Hands((60,) * 8)
        wide = [[59] * 8 ** deeds for deeds in range(1, 5)]
        self.assertEqual(((59, 59),) + ((59,),) * 2 + ((),) * 5, book_logs(eight, wide, (0, 0, 1, 2)))
        self.assertEqual(24, crowd_number(eight, wide, 4))
        seven = [[0] * 7 ** deeds for deeds in range(1, 6)]
        self.must_raise(Refused, seven, crowd_number, Hands((2,) * 7), seven, 4)
        self.assertEqual(24, crowd_number(Hands((2,) * 7), seven[:4], 4))

    def test_dial_books_tell(self):
        for marks in ((2, 2), (2, 3), (2, 3, 6), (3, 3, 3)):
            hands = Hands(marks)
            book = [
                [logs_of(Dial(hands), story)[story[-1]][-1] for story in all_stories(hands, deeds)]
                for deeds in range(1, 6)
            ]
            self.assertIsNone(twin_stories(hands, book))
            self.assertEqual(1, crowd_number(hands, book, 5))
            for story in stories_up_to(hands, 5):
                self.assertEqual(logs_of(Dial(hands), story), book_logs(hands, book, story))


class WrongBooks(Raising, unittest.TestCase):
    def test_any_value(self):
        wrong = any_values() + [
            [[0]], [[0, 0, 0]], [[0, 2]], [[2, 0]], [[0, -1]], [[0, True]], [[0, None]], [[0, 0], []], [[0, 0], [0, 0, 0]],
            [[0, 0], [0, 0, 0, 2]], [[0, 0], [0] * 5], [[0, 0], None], [[], [0, 0]], [(0, 0), "0000"], [[0, [0]]],
            [0, 0],
        ]
        for value in wrong:
            for call in (book_logs, alike_stories):
                self.must_raise(Refused, value, call, PAIR, value, None)
            self.must_raise(Refused, value, twin_stories, PAIR, value)
            self.must_raise(Refused, value, crowd_number, PAIR, value, None)

    def test_marks_go_by_the_last_hand(self):
        hands = Hands((1, 3))
        self.assertIsNone(twin_stories(hands, [[0, 2], [0, 1, 0, 1]]))
        for wrong in ([[1, 2]], [[0, 3]], [[0, 2], [0, 1, 1, 1]], [[0, 2], [0, 3, 0, 1]]):
            self.must_raise(Refused, wrong, twin_stories, hands, wrong)

    def test_stories(self):
        book = [[0, 0], [0, 0, 0, 0]]
        for call in (book_logs, alike_stories):
            self.must_raise(BadStory, -1, call, PAIR, book, None)
            self.must_raise(BadStory, 3, call, PAIR, book, (0, 0, 0, 2))
            for story in ([0, 0, 0], [1] * 10000):
                self.must_raise(Refused, story, call, PAIR, book, story)

    def test_lengths(self):
        book = [[0, 0], [0, 0, 0, 0]]
        for value in any_values() + [3, 10 ** 20]:
            self.must_raise(Refused, value, crowd_number, PAIR, book, value)


if __name__ == "__main__":
    unittest.main()
