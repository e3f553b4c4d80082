"""Points 34 and 35: kinds and their lots, shares, texts, and how many stories and logs there are."""

import random
import unittest
from fractions import Fraction
from itertools import combinations, product
from math import comb, prod

from logsapart.errors import BadKinds, BadStory, BadText, Refused, TooGreat
from logsapart.hands import Hands
from logsapart.kinds import (
    Kinds, alike_marks, check_meetings, full_lengths, is_served, kinds_counts, kinds_share, kinds_text, logs_many,
    need_served, read_kinds, stories_leaving,
)
from support import Raising, any_values, is_deep_tuple, not_of_length

THREE = Hands((2, 3, 1))
SOME = Kinds(THREE, ((0,), (0, 1), (1,)))


def all_lots(many):
    """All lots of so many hands."""
    return [lot for size in range(1, many + 1) for lot in combinations(range(many), size)]


def small_kinds():
    """Kinds of few lots of few hands with few marks; equal lots and hands in no lot among them."""
    told = []
    for marks in ((2, 2), (1, 3), (3, 2)):
        for many in (1, 2, 3):
            told.extend(Kinds(Hands(marks), lots) for lots in product(all_lots(2), repeat=many))
    source = random.Random(20)
    for marks in ((2, 2, 2), (1, 2, 3), (2, 3, 4), (4, 1, 2, 3)):
        for _ in range(12):
            lots = [source.choice(all_lots(len(marks))) for _ in range(source.randrange(1, 6))]
            told.append(Kinds(Hands(marks), lots))
    return told


def plain_share(kinds):
    sizes = [prod(kinds.hands.marks[hand] for hand in lot) for lot in kinds.lots]
    return sum((Fraction(1, size) for size in sizes), Fraction(0))


def kind_stories(kinds, length):
    return list(product(range(len(kinds.lots)), repeat=length))


class MakingKinds(Raising, unittest.TestCase):
    def test_attributes(self):
        kinds = Kinds(hands=Hands([2, 3, 1]), lots=[[0], [0, 1], (0, 1, 2)])
        self.assertEqual((THREE, ((0,), (0, 1), (0, 1, 2)), (2, 6, 6)), (kinds.hands, kinds.lots, kinds.sizes))
        self.assertTrue(is_deep_tuple(kinds.lots) and is_deep_tuple(kinds.sizes))
        for each in small_kinds():
            self.assertEqual(tuple(prod(each.hands.marks[hand] for hand in lot) for lot in each.lots), each.sizes)
        lots = [[0], [1]]
        kinds = Kinds(THREE, lots)
        lots[0].append(2)
        self.assertEqual(((0,), (1,)), kinds.lots)

    def test_one_and_twelve_lots(self):
        eight = Hands((60,) * 8)
        self.assertEqual((60 ** 8,), Kinds(eight, [tuple(range(8))]).sizes)
        self.assertEqual((60,) * 12, Kinds(eight, [[7]] * 12).sizes)
        self.must_raise(BadKinds, -1, Kinds, eight, [[7]] * 13)
        self.must_raise(BadKinds, -1, Kinds, eight, [])
        self.must_raise(BadKinds, -1, Kinds, eight, [None] * 13)

    def test_equality(self):
        self.assertTrue(SOME == Kinds(Hands([2, 3, 1]), [[0], [0, 1], [1]]))
        self.assertFalse(SOME != Kinds(THREE, [[0], [0, 1], [1]]))
        self.assertFalse(SOME == Kinds(THREE, [[0], [1], [0, 1]]))
        self.assertFalse(SOME == Kinds(Hands((2, 3, 2)), [[0], [0, 1], [1]]))
        for value in any_values() + [SOME.lots, THREE]:
            self.assertFalse(SOME == value)

    def test_wrong_lots(self):
        for value in any_values():
            if not isinstance(value, (list, tuple)) or not 0 < len(value) <= 12:
                self.must_raise(BadKinds, -1, Kinds, THREE, value)
            if not isinstance(value, (list, tuple)) or value not in ([1], (0,), [0], (1,)):
                self.must_raise(BadKinds, 0, Kinds, THREE, [value, [0]])
                self.must_raise(BadKinds, 2, Kinds, THREE, ([0], [0], value, None))
        for lot in ([], (1, 0), [0, 0], (0, 3), (-1, 0), [0, True], (0, 1, 1), [0, 2, 1], ("0",), (0, None), ((0,), 1)):
            self.must_raise(BadKinds, 1, Kinds, THREE, ([0, 1, 2], lot))


class Shares(Raising, unittest.TestCase):
    def test_by_adding(self):
        for kinds in small_kinds():
            plain = plain_share(kinds)
            told = (plain.numerator, plain.denominator)
            self.assertEqual(told, kinds_share(kinds))
            self.assertIs(plain <= 1, is_served(kinds))
            if plain <= 1:
                self.assertIs(kinds, need_served(kinds))
            else:
                self.must_lack_telling(*told, need_served, kinds)

    def test_just_one_below_and_above(self):
        hands = Hands((12, 11, 13))
        for size, served in (((0,), True), ((1,), False), ((2,), True)):
            self.assertIs(served, is_served(Kinds(hands, [size] * 12)))
        self.assertEqual((1, 1), kinds_share(Kinds(hands, [(0,)] * 12)))
        self.assertEqual((12, 13), kinds_share(Kinds(hands, [(2,)] * 12)))
        self.must_lack_telling(12, 11, need_served, Kinds(hands, [(1,)] * 12))

    def test_alike_marks(self):
        eight = Hands((1,) * 8)
        for kinds in small_kinds() + [Kinds(eight, [[7]] * 12), Kinds(eight, [tuple(range(8))] * 12)]:
            plain = 1
            while sum(Fraction(1, plain ** len(lot)) for lot in kinds.lots) > 1:
                plain += 1
            self.assertEqual(plain, alike_marks(kinds))
        self.assertEqual(1, alike_marks(Kinds(Hands((60, 60)), [(0, 1)])))
        self.assertEqual(12, alike_marks(Kinds(Hands((60, 60)), [(1,)] * 12)))


class Stories(Raising, unittest.TestCase):
    def test_stories_of_kinds(self):
        self.assertEqual((2, 0, 1), check_meetings(kinds=SOME, value=[2, 0, 1]))
        self.assertEqual((), check_meetings(SOME, []))
        self.assertEqual(10000, len(check_meetings(SOME, [2] * 10000)))
        for value in any_values() + [3, 10 ** 20]:
            self.must_raise(BadStory, 2, check_meetings, SOME, (0, 2, value, None))
            self.must_raise(BadStory, 0, kinds_counts, SOME, [value])
            if not isinstance(value, (list, tuple)):
                self.must_raise(BadStory, -1, check_meetings, SOME, value)
                self.must_raise(BadStory, -1, kinds_counts, SOME, value)
        self.must_raise(BadStory, -1, check_meetings, SOME, [9] * 10001)

    def test_counts(self):
        for kinds in small_kinds():
            for story in [(), (0,), (len(kinds.lots) - 1,) * 3] + kind_stories(kinds, 2):
                plain = tuple(sum(hand in kinds.lots[kind] for kind in story) for hand in range(kinds.hands.many))
                self.assertEqual(plain, kinds_counts(kinds, list(story)))


class Texts(Raising, unittest.TestCase):
    def test_there_and_back(self):
        self.assertEqual("kinds 0 0,1 1", kinds_text(SOME))
        for kinds in small_kinds() + [Kinds(Hands((60,) * 8), [tuple(range(8)), (7,)] * 6)]:
            text = kinds_text(kinds)
            self.assertEqual("kinds " + " ".join(",".join(map(str, lot)) for lot in kinds.lots), text)
            back = read_kinds(kinds.hands, text)
            self.assertTrue(kinds == back)
            self.assertEqual(kinds.sizes, back.sizes)
        self.assertEqual(((0, 2), (1,)), read_kinds(hands=THREE, text="kinds 0,2 1").lots)

    def test_no_such_lines(self):
        for text in ("", "kinds", "kinds ", "kinds  0", " kinds 0", "kinds 0 ", "kind 0", "kinds 0,", "kinds ,0", "kinds 0,,1",
                     "kinds 1,0", "kinds 0,0", "kinds 3", "kinds 00", "kinds 01", "kinds +0", "kinds -", "kinds -1", "kinds 0;1",
                     "kinds 0, 1", "kinds 0\n", "kinds 0\n1", "kinds\n0", "Kinds 0", "kinds" + " 0" * 13, "0 1", "hands 2 2",
                     "kinds a", "kinds 0,a", "kinds 0.0", "kinds\t0", "kinds 0\t1", "kinds None", "kinds 0x0", "kinds\u00a00",
                     "kinds \u0661", "kinds \u00b2", "kinds 0 0,1 2,1", "kinds 0_1", "kinds 1e0"):
            self.must_raise(BadText, 1, read_kinds, THREE, text)
        self.assertEqual(((0,),) * 12, read_kinds(THREE, "kinds" + " 0" * 12).lots)

    def test_no_strings(self):
        for value in any_values():
            self.must_raise(BadText, 1 if isinstance(value, str) else 0, read_kinds, THREE, value)


def plain_stories(kinds, most):
    """By lengths how many stories of at most so many deeds leave them."""
    told = {}
    for length in range(most + 1):
        for story in kind_stories(kinds, length):
            lengths = tuple(sum(hand in kinds.lots[kind] for kind in story) for hand in range(kinds.hands.many))
            told[lengths] = told.get(lengths, 0) + 1
    return told


def plain_logs(kinds, lengths):
    return prod(marks ** length for marks, length in zip(kinds.hands.marks, lengths))


class Counting(Raising, unittest.TestCase):
    def test_by_all_stories(self):
        for kinds in small_kinds()[::4]:
            most = 4 if len(kinds.lots) < 5 else 3
            told = plain_stories(kinds, most)
            # Lengths that come to no more than this are left by no longer stories.
            for lengths in product(range(most + 1), repeat=kinds.hands.many):
                if sum(lengths) <= most:
                    self.assertEqual(told.get(lengths, 0), stories_leaving(kinds, list(lengths)))
                    self.assertEqual(plain_logs(kinds, lengths), logs_many(kinds, list(lengths)))

    def test_logs_by_all_logs(self):
        for lengths in product(range(3), repeat=3):
            rows = [list(product(range(marks), repeat=length)) for marks, length in zip((2, 3, 1), lengths)]
            self.assertEqual(len(list(product(*rows))), logs_many(SOME, lengths))

    def test_no_deeds_and_hands_in_no_lot(self):
        self.assertEqual((1, 1), (stories_leaving(SOME, (0, 0, 0)), logs_many(SOME, (0, 0, 0))))
        self.assertEqual((0, 2), (stories_leaving(SOME, (1, 0, 1)), logs_many(SOME, (1, 0, 1))))
        self.assertEqual(1, stories_leaving(kinds=Kinds(THREE, [[0, 1, 2]]), lengths=(5, 5, 5)))
        self.assertEqual(0, stories_leaving(Kinds(THREE, [[0, 1, 2]]), (5, 5, 4)))

    def test_to_the_limit(self):
        pair = Kinds(Hands((60, 59)), [[0], [1]])
        self.assertEqual(comb(139, 60), stories_leaving(pair, (60, 79)))
        self.assertEqual(10000, stories_leaving(pair, (9999, 1)))
        self.assertEqual(60 ** 9999 * 59, logs_many(pair, (9999, 1)))
        self.assertEqual(12 ** 10000, stories_leaving(Kinds(Hands((1, 1)), [[0]] * 12), (10000, 0)))
        # The product is 20,000, then more.
        self.assertEqual(comb(99 + 199, 99), stories_leaving(pair, (99, 199)))
        for lengths in ((99, 200), (10000, 1), (141, 140), (200, 99)):
            self.assertGreater(prod(length + 1 for length in lengths), 20000)
            self.must_raise(TooGreat, 20000, stories_leaving, pair, lengths)
            self.must_raise(TooGreat, 20000, logs_many, pair, lengths)
        eight = Kinds(Hands((2,) * 8), [tuple(range(8))] + [(hand,) for hand in range(8)])
        self.assertEqual(plain_stories_of_eight(), stories_leaving(eight, (2,) * 8))
        self.must_raise(TooGreat, 20000, logs_many, eight, (3, 3, 3, 3, 3, 3, 3, 1))

    def test_wrong_lengths(self):
        wrong = not_of_length(3) + [
            (0, 0), (0, 0, 0, 0), (0, -1, 0), (0, 10001, 0), [0, True, 0], (0, None, 0), (0, "1", 0), ((0,), 0, 0), 3,
            (10001, 10000, 10000), (10 ** 30, 0, 0),
        ]
        for value in wrong:
            self.must_raise(Refused, value, stories_leaving, SOME, value)
            self.must_raise(Refused, value, logs_many, SOME, value)


def plain_stories_of_eight():
    """Stories with two deeds of each of eight hands, alone or all together."""
    alone = [1]
    for deeds in range(1, 17):
        alone.append(alone[-1] * deeds)
    # No deed together; one among 16 - 8 others; two.
    return alone[16] // 2 ** 8 + 9 * alone[8] + 1


def plain_full(kinds, most_sum):
    told = plain_stories(kinds, most_sum)
    found = [lengths for lengths, stories in told.items() if stories > plain_logs(kinds, lengths)]
    return min(found, key=lambda lengths: (sum(lengths), lengths), default=None)


class Full(Raising, unittest.TestCase):
    def test_by_all_lengths(self):
        found = 0
        for kinds in small_kinds():
            if plain_share(kinds) <= 1:
                self.assertIsNone(full_lengths(kinds, most=1))
                continue
            # All lengths that add up to no more than the answer does are counted.
            lengths = full_lengths(kinds, most=20000)
            many = comb(sum(lengths) + kinds.hands.many, kinds.hands.many)
            self.assertEqual(lengths, full_lengths(kinds, most=many))
            self.must_raise(TooGreat, many - 1, full_lengths, kinds, most=many - 1)
            self.assertGreater(stories_leaving(kinds, lengths), logs_many(kinds, lengths))
            self.assertTrue(is_deep_tuple(lengths))
            if sum(lengths) <= 5:
                found += 1
                self.assertEqual(lengths, plain_full(kinds, sum(lengths)))
        self.assertGreater(found, 30)

    def test_the_least_of_one_sum(self):
        # Three kinds of hand 1 alone beside three of hand 0: both are full at once.
        self.assertEqual((0, 1), full_lengths(Kinds(Hands((2, 2)), [[0]] * 3 + [[1]] * 3), most=100))
        self.assertEqual((1, 0), full_lengths(Kinds(Hands((2, 3)), [[0]] * 3 + [[1]] * 3), most=100))
        self.assertEqual((0, 0, 1), full_lengths(kinds=Kinds(Hands((2, 2, 1)), [[2]] * 2), most=4))

    def test_far_ones(self):
        kinds = Kinds(Hands((2, 7)), [[0], [1]] + [[0, 1]] * 6)
        lengths = full_lengths(kinds, most=20000)
        self.assertEqual((25, 15), lengths)
        ways = {(one, other): stories_leaving(kinds, (one, other)) for one in range(41) for other in range(41 - one)}
        full = [each for each in ways if ways[each] > plain_logs(kinds, each)]
        self.assertEqual([lengths], [each for each in full if sum(each) <= 40 and each <= lengths])
        close = Kinds(Hands((12, 11)), [(0,)] * 11 + [(1,)])
        self.must_raise(TooGreat, 2000, full_lengths, close, most=2000)
        self.assertRaises(TypeError, full_lengths, close, 2000)
        self.assertRaises(TypeError, full_lengths, close)


if __name__ == "__main__":
    unittest.main()
