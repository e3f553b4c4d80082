"""Points 36 and 37: flats, good tables of kinds, marks by them, tails and torn ends."""

import random
import unittest
from itertools import combinations, product
from math import prod

from logsapart.errors import BadLogs, BadStory, Refused, TooGreat
from logsapart.flats import (
    Flats, flat_lacking, flat_of, flats_logs, flats_story, flats_tail, kinds_table, lasts_behind, torn_ends, who_met,
)
from logsapart.hands import Hands
from logsapart.kinds import Kinds, check_meetings, is_served, kinds_share
from logsapart.tables import Table, dial_table, table_logs
from support import Raising, all_logs, any_values, is_deep_tuple, not_of_length, telling_hands

PAIR = Kinds(Hands((2, 2)), ((0,), (1,)))
SWAP = (0, 1, 1, 0)
TOGETHER = Kinds(Hands((2, 3)), ((0, 1), (0,), (1,)))
IDLE = Kinds(Hands((2, 2, 3)), ((0, 1), (1,)))


def served_kinds():
    """Kinds of few hands and lots of a share of at most 1, equal lots and hands in no lot among them."""
    source = random.Random(30)
    told = [TOGETHER, IDLE, PAIR, Kinds(Hands((2, 2)), [[0, 1]] * 4), Kinds(Hands((1, 1)), [[1]])]
    for marks in ((2, 2), (2, 3), (4, 2), (2, 2, 2), (2, 3, 2), (3, 3, 3), (1, 4, 2), (2, 2, 2, 2)):
        lots = [lot for size in range(1, len(marks) + 1) for lot in combinations(range(len(marks)), size)]
        some = [Kinds(Hands(marks), [source.choice(lots) for _ in range(source.randrange(1, 7))]) for _ in range(25)]
        told.extend([kinds for kinds in some if is_served(kinds)][:7])
    return told


def plain_rows(kinds):
    return list(product(*[range(marks) for marks in kinds.hands.marks]))


def plain_flat(kinds, last, kind):
    """By all rows: those that are like the last marks but for the lot's."""
    others = [hand for hand in range(kinds.hands.many) if hand not in kinds.lots[kind]]
    return tuple(row for row in plain_rows(kinds) if all(row[hand] == last[hand] for hand in others))


def plain_lacking(kinds, table):
    told = dict(zip(plain_rows(kinds), table))
    for kind in range(len(kinds.lots)):
        for row in plain_rows(kinds):
            flat = plain_flat(kinds, row, kind)
            if flat[0] == row and not any(told[each] == kind for each in flat):
                return kind, row
    return None


def plain_behind(flats, last, kind):
    told = dict(zip(plain_rows(flats.kinds), flats.table))
    return [row for row in plain_flat(flats.kinds, last, kind) if told[row] == kind][0]


def plain_logs(flats, story):
    logs = [[] for _ in flats.kinds.hands.marks]
    last = (0,) * len(logs)
    for kind in story:
        last = plain_behind(flats, last, kind)
        for hand in flats.kinds.lots[kind]:
            logs[hand].append(last[hand])
    return tuple(map(tuple, logs))


def stories_up_to(kinds, length):
    return [story for deeds in range(length + 1) for story in product(range(len(kinds.lots)), repeat=deeds)]


def some_flats():
    """Tables of kinds at work, some of them with flats of which several rows tell the kind."""
    source = random.Random(31)
    told = [Flats(PAIR, SWAP)]
    for kinds in served_kinds():
        flats = Flats(kinds)
        told.append(flats)
        if None in flats.table:
            filled = [who if who is not None else source.choice([None, *range(len(kinds.lots))]) for who in flats.table]
            told.append(Flats(kinds, filled))
    return told


FLATS = some_flats()


class FlatRows(Raising, unittest.TestCase):
    def test_by_all_rows(self):
        for kinds in served_kinds():
            for last in plain_rows(kinds):
                for kind in range(len(kinds.lots)):
                    flat = flat_of(kinds, list(last), kind)
                    self.assertEqual(plain_flat(kinds, last, kind), flat)
                    self.assertTrue(is_deep_tuple(flat))

    def test_many_rows(self):
        wide = Kinds(Hands((60,) * 8), ((0, 7), (3,)))
        flat = flat_of(kinds=wide, last=(9,) * 8, kind=0)
        self.assertEqual((3600, (0,) + (9,) * 6 + (0,), (0,) + (9,) * 6 + (1,)), (len(flat), flat[0], flat[1]))
        self.assertEqual(60, len(flat_of(wide, (9,) * 8, 1)))

    def test_wrong_values(self):
        for value in [v for v in any_values() if v != (0, 0)] + [(2, 0), (0, 3), (0, 0, 0), [0, True], 0]:
            self.must_raise(Refused, value, flat_of, TOGETHER, value, 9)
        for value in any_values() + [3]:
            self.must_raise(Refused, value, flat_of, TOGETHER, (0, 0), value)


class Lacking(Raising, unittest.TestCase):
    def test_by_all_tables(self):
        for kinds in (PAIR, Kinds(Hands((2, 2)), ((0, 1), (0,))), Kinds(Hands((1, 3)), ((1,), (0, 1))),
                      Kinds(Hands((2, 3)), ((0, 1),)), Kinds(Hands((2, 1, 2)), ((0, 2), (1, 2)))):
            for table in product([None, *range(len(kinds.lots))], repeat=len(plain_rows(kinds))):
                self.assertEqual(plain_lacking(kinds, table), flat_lacking(kinds, list(table)))

    def test_greater_tables(self):
        source = random.Random(32)
        for flats in FLATS:
            table = list(flats.table)
            for _ in range(4):
                lacking = flat_lacking(flats.kinds, table)
                self.assertEqual(plain_lacking(flats.kinds, table), lacking)
                table[source.randrange(len(table))] = source.choice([None, *range(len(flats.kinds.lots))])

    def test_good_ones_up_to_a_share_of_one(self):
        for marks in ((1, 2), (2, 2), (3, 1), (2, 3)):
            for lots in product(((0,), (1,), (0, 1)), repeat=2):
                kinds = Kinds(Hands(marks), lots)
                tables = product([None, 0, 1], repeat=len(plain_rows(kinds)))
                self.assertEqual(is_served(kinds), any(flat_lacking(kinds, table) is None for table in tables))

    def test_wrong_tables(self):
        wrong = not_of_length(4) + [(0, 1, 1), (0, 1, 1, 0, 0), (0, 1, 2, 0), [0, 1, -1, 0], (0, True, 1, 0), (0, "1", 1, 0)]
        for value in wrong:
            self.must_raise(Refused, value, flat_lacking, PAIR, value)
            if value is not None:
                self.must_raise(Refused, value, Flats, PAIR, value)
        self.must_raise(Refused, (0, 1, 1, 1), Flats, PAIR, (0, 1, 1, 1))
        self.assertEqual((0, (0, 1)), flat_lacking(kinds=PAIR, table=(0, 1, 1, 1)))


class GoodTables(Raising, unittest.TestCase):
    def check(self, kinds, table):
        """Each flat of each kind has just one row that tells the kind."""
        told = dict(zip(plain_rows(kinds), table))
        for kind in range(len(kinds.lots)):
            for flat in {plain_flat(kinds, row, kind) for row in plain_rows(kinds)}:
                self.assertEqual(1, sum(told[row] == kind for row in flat))

    def test_just_one_row_of_each_flat(self):
        for kinds in served_kinds():
            table = kinds_table(kinds)
            self.assertIsInstance(table, tuple)
            self.check(kinds, table)
            if kinds_share(kinds) == (1, 1):
                self.assertNotIn(None, table)
            self.assertEqual(table, kinds_table(Kinds(kinds.hands, kinds.lots)))
            self.assertEqual(table, Flats(kinds).table)

    def test_up_to_4000_rows(self):
        for marks, lots in (((60, 60), [[0], [1], [0, 1]]), ((10, 10, 40), [[0]] * 10), ((8, 8, 8, 7), [[0], [1], [2]] * 2 + [[0], [1]]),
                            ((2, 2, 2, 2, 4, 4, 4, 3), [[0, 1], [1, 2], [2, 3], [0, 3]]), ((10, 10, 10, 4), [[0, 1, 2, 3]] * 12),
                            ((2, 3, 6, 10, 11), [[2], [0], [1]])):
            kinds = Kinds(Hands(marks), lots)
            self.assertLessEqual(prod(marks), 4000)
            table = kinds_table(kinds)
            rows = plain_rows(kinds)
            for kind, lot in enumerate(kinds.lots):
                told = [row for row, who in zip(rows, table) if who == kind]
                others = {tuple(mark for hand, mark in enumerate(row) if hand not in lot) for row in told}
                self.assertEqual(prod(marks) // kinds.sizes[kind], len(told))
                self.assertEqual(len(told), len(others))

    def test_errors_in_their_order(self):
        wide = Kinds(Hands((60, 60, 2)), ((0,), (1,)))
        above = Kinds(Hands((60, 60, 2, 1)), ((3,), (1,)))
        for call in (kinds_table, Flats):
            self.must_raise(TooGreat, 4000, call, wide)
            self.must_lack_telling(61, 60, call, above)
        for value in any_values():
            self.must_raise(TooGreat, 4000, flat_lacking, wide, value)
            self.must_raise(TooGreat, 4000, flat_lacking, above, value)
            self.must_raise(TooGreat, 4000, Flats, wide, value)
            self.must_lack_telling(61, 60, Flats, above, value)
        small_above = Kinds(Hands((2, 2)), ((0,), (1,), (0, 1)))
        self.must_lack_telling(5, 4, kinds_table, small_above)
        self.must_lack_telling(5, 4, Flats, small_above, SWAP)
        self.must_lack_telling(5, 4, Flats, small_above, None)

    def test_attributes(self):
        flats = Flats(kinds=PAIR, table=list(SWAP))
        self.assertTrue(flats.kinds == PAIR)
        self.assertEqual((SWAP, tuple), (flats.table, type(flats.table)))
        self.assertTrue(flats == Flats(Kinds(Hands([2, 2]), [[0], [1]]), SWAP))
        self.assertFalse(flats != Flats(PAIR, SWAP))
        self.assertFalse(flats == Flats(PAIR, (1, 0, 0, 1)))
        self.assertFalse(Flats(PAIR, (1, 0, 0, 1)) == Flats(Kinds(Hands((2, 2)), ((1,), (0,))), (1, 0, 0, 1)))
        for value in any_values() + [SWAP, PAIR, Table(Hands((2, 2)), SWAP)]:
            self.assertFalse(flats == value)


class Deeds(Raising, unittest.TestCase):
    def test_by_all_rows(self):
        several = 0
        for flats in FLATS:
            for last, who in zip(plain_rows(flats.kinds), flats.table):
                self.assertEqual(who, who_met(flats, list(last)))
                for kind in range(len(flats.kinds.lots)):
                    behind = lasts_behind(flats, list(last), kind)
                    self.assertEqual(plain_behind(flats, last, kind), behind)
                    self.assertIsInstance(behind, tuple)
                    several += sum(who_met(flats, row) == kind for row in plain_flat(flats.kinds, last, kind)) > 1
        self.assertGreater(several, 50)

    def test_wrong_values(self):
        flats = Flats(TOGETHER)
        for value in [v for v in any_values() if v != (0, 0)] + [(2, 0), (0, 3), [0, True], (0,), 0]:
            self.must_raise(Refused, value, who_met, flats, value)
            self.must_raise(Refused, value, lasts_behind, flats, value, 9)
        for value in any_values() + [3]:
            self.must_raise(Refused, value, lasts_behind, flats, (1, 2), value)
        self.assertEqual(0, who_met(flats=flats, last=lasts_behind(flats=flats, last=(1, 2), kind=0)))

    def test_hands_alone_are_as_in_tables_of_hands(self):
        for hands in telling_hands(4):
            table = dial_table(hands)
            flats = Flats(Kinds(hands, [[hand] for hand in range(hands.many)]), table.tells)
            for story in product(range(hands.many), repeat=4):
                self.assertEqual(table_logs(table, story), flats_logs(flats, story))


class LogsAndStories(Raising, unittest.TestCase):
    def test_there_and_back(self):
        for flats in FLATS:
            left = {}
            for story in stories_up_to(flats.kinds, 4 if len(flats.kinds.lots) < 4 else 3):
                logs = flats_logs(flats, list(story))
                self.assertEqual(plain_logs(flats, story), logs)
                self.assertNotIn(logs, left)
                left[logs] = story
                back = flats_story(flats, [list(log) for log in logs])
                self.assertEqual(story, back)
                self.assertIsInstance(back, tuple)
            self.assertTrue(all(is_deep_tuple(logs) for logs in left))
            if prod(flats.kinds.hands.marks) < 10:
                for logs in all_logs(flats.kinds.hands, 3):
                    if logs not in left:
                        self.must_raise(Refused, logs, flats_story, flats, logs)

    def test_a_row_that_tells_but_is_not_the_least(self):
        kinds = Kinds(Hands((2, 2)), ((0, 1),))
        flats = Flats(kinds, (None, 0, None, 0))
        self.assertEqual(((0,), (1,)), flats_logs(flats, (0,)))
        self.must_raise(Refused, ((1,), (1,)), flats_story, flats, ((1,), (1,)))

    def test_hands_in_no_lot(self):
        flats = Flats(IDLE)
        self.assertEqual((), flats_logs(flats, (0, 1, 1))[2])
        logs = (*flats_logs(flats, (0, 1))[:2], (0,))
        self.must_raise(Refused, logs, flats_story, flats, logs)
        self.must_raise(Refused, ((), (), (2,)), flats_story, flats, ((), (), (2,)))

    def test_long_stories(self):
        source = random.Random(33)
        for marks, lots in (((10, 10, 10, 4), [[0, 1, 2, 3]] * 12), ((60, 60), [[0], [1], [0, 1]]), ((2, 3, 6), [[0], [1], [2]]),
                            ((2,) * 8, [tuple(range(8))] * 5 + [(0,)])):
            flats = Flats(Kinds(Hands(marks), lots))
            story = tuple(source.randrange(len(lots)) for _ in range(10000 // max(map(len, lots))))
            logs = flats_logs(flats, story)
            self.assertEqual(story, flats_story(flats, logs))
            self.assertEqual(story[-100:], flats_tail(flats, logs)[0][-100:])

    def test_wrong_values(self):
        flats = Flats(TOGETHER)
        for value in any_values() + [3]:
            self.must_raise(BadStory, 1, flats_logs, flats, (2, value))
        self.must_raise(BadStory, -1, flats_logs, flats, "")
        for call in (flats_story, flats_tail, torn_ends):
            for value in not_of_length(2):
                self.must_raise(BadLogs, -1, call, flats, value)
            for value in any_values():
                self.must_raise(BadLogs, 1, call, flats, ((1,), (2, value)))
            self.must_raise(BadLogs, 0, call, flats, ((2,), (3,)))
            self.must_raise(BadLogs, 1, call, flats, ((1,), (3,)))


def plain_tail(flats, logs):
    """By what point 37 says: struck while each hand in some lot has an entry and the table tells a kind."""
    told = dict(zip(plain_rows(flats.kinds), flats.table))
    rows = [list(log) for log in logs]
    busy = {hand for lot in flats.kinds.lots for hand in lot}
    story = []
    while all(rows[hand] for hand in busy):
        kind = told[tuple((row or [0])[-1] for row in rows)]
        if kind is None:
            break
        story.insert(0, kind)
        for hand in flats.kinds.lots[kind]:
            del rows[hand][-1]
    return tuple(story), tuple(map(tuple, rows))


class Tails(unittest.TestCase):
    def test_beginnings_gone(self):
        source = random.Random(34)
        for flats in FLATS:
            for _ in range(20):
                story = tuple(source.randrange(len(flats.kinds.lots)) for _ in range(8))
                logs = flats_logs(flats, story)
                cut = [log[source.randrange(len(log) + 1):] for log in logs]
                tail, rest = flats_tail(flats, cut)
                self.assertEqual(plain_tail(flats, cut), (tail, rest))
                self.assertTrue(is_deep_tuple((tail, rest)))
                # What is told are the last deeds, as long as no log was cut ahead of them.
                self.assertEqual(story[len(story) - len(tail):], tail)
                entries = [sum(hand in flats.kinds.lots[kind] for kind in tail) for hand in range(len(logs))]
                self.assertEqual([len(log) - len(left) for log, left in zip(cut, rest)], entries)

    def test_any_logs(self):
        stopped = 0
        for flats in FLATS:
            if prod(flats.kinds.hands.marks) < 14:
                for logs in all_logs(flats.kinds.hands, 4 if flats.kinds.hands.many == 2 else 3):
                    tail = flats_tail(flats, logs)
                    self.assertEqual(plain_tail(flats, logs), tail)
                    stopped += all(tail[1])
        self.assertGreater(stopped, 50)

    def test_hands_in_no_lot(self):
        flats = Flats(IDLE)
        logs = flats_logs(flats, (0, 1, 0, 1, 1))
        self.assertEqual(plain_tail(flats, logs), flats_tail(flats, logs))
        self.assertGreater(len(flats_tail(flats, logs)[0]), 0)
        for mark in (1, 2):
            with_entry = (*logs[:2], (0, mark))
            self.assertEqual((0, mark), flats_tail(flats, with_entry)[1][2])
            self.assertEqual(plain_tail(flats, with_entry), flats_tail(flats, with_entry))

    def test_nothing_left(self):
        flats = Flats(TOGETHER)
        self.assertEqual(((), ((), ())), flats_tail(flats, ((), ())))
        self.assertEqual(((), ((), (2, 1))), flats_tail(flats=flats, logs=((), [2, 1])))


def plain_torn(flats, logs, most):
    """By all stories of at most so many deeds: whose logs these are, or those torn behind which they are."""
    whole, torn = [], []
    for story in stories_up_to(flats.kinds, most):
        ahead = plain_logs(flats, story)
        if ahead == logs:
            whole.append((story, None, ()))
        last = tuple((log or (0,))[-1] for log in ahead)
        for kind, lot in enumerate(flats.kinds.lots):
            behind = plain_behind(flats, last, kind)
            for size in range(1, len(lot)):
                for hands in combinations(lot, size):
                    written = tuple(log + (behind[hand],) if hand in hands else log for hand, log in enumerate(ahead))
                    if written == logs:
                        torn.append((story, kind, hands))
    return tuple(whole + sorted(torn, key=lambda each: each[1:]))


class TornEnds(unittest.TestCase):
    def test_any_logs(self):
        several = 0
        for flats in FLATS:
            if prod(flats.kinds.hands.marks) < 14 and len(flats.kinds.lots) < 5:
                most = 3 if flats.kinds.hands.many == 2 and len(flats.kinds.lots) < 4 else 2
                for logs in all_logs(flats.kinds.hands, most):
                    ends = torn_ends(flats, [list(log) for log in logs])
                    # Each deed of a story leaves an entry at least, so no longer ones come to these logs.
                    self.assertEqual(plain_torn(flats, logs, most), ends)
                    self.assertTrue(is_deep_tuple(ends))
                    several += len(ends) > 1
        self.assertGreater(several, 50)

    def test_all_kinds_and_all_hands(self):
        source = random.Random(35)
        flats = Flats(Kinds(Hands((2, 3, 2, 2)), ((0, 1, 2), (0, 1, 2, 3), (1, 3), (2,))))
        for _ in range(12):
            story = tuple(source.randrange(4) for _ in range(40))
            logs = flats_logs(flats, story)
            last = tuple(log[-1] if log else 0 for log in logs)
            self.assertEqual((story, None, ()), torn_ends(flats, logs)[0])
            for kind, lot in enumerate(flats.kinds.lots):
                behind = lasts_behind(flats, last, kind)
                for size in range(1, len(lot)):
                    for hands in combinations(lot, size):
                        torn = [log + (behind[hand],) if hand in hands else log for hand, log in enumerate(logs)]
                        ends = torn_ends(flats, torn)
                        self.assertIn((story, kind, hands), ends)
                        self.check(flats, torn, ends)

    def check(self, flats, logs, ends):
        whole = [end for end in ends if end[1] is None]
        self.assertEqual(tuple(whole + sorted([end for end in ends if end[1] is not None], key=lambda end: end[1:])), ends)
        for story, kind, hands in ends:
            check_meetings(flats.kinds, story)
            ahead = flats_logs(flats, story)
            behind = flats_logs(flats, (*story, kind)) if kind is not None else ahead
            self.assertEqual(tuple(logs), tuple(
                behind[hand] if hand in hands else ahead[hand] for hand in range(len(ahead))
            ))

    def test_nothing_written(self):
        for flats in FLATS:
            self.assertEqual((((), None, ()),), torn_ends(flats, ((),) * flats.kinds.hands.many))

    def test_nothing_fits(self):
        flats = Flats(IDLE)
        self.assertEqual((), torn_ends(flats=flats, logs=((), (), (0,))))

    def test_ascending(self):
        flats = Flats(Kinds(Hands((1, 1, 1)), ((0, 1, 2),)))
        self.assertEqual((((), 0, (0,)),), torn_ends(flats, ((0,), (), ())))
        self.assertEqual((((), 0, (0, 2)),), torn_ends(flats, ((0,), (), (0,))))
        flats = Flats(Kinds(Hands((2,) * 8), [tuple(range(8))] * 12))
        story = (3, 11, 0, 5) * 10
        self.assertEqual((story, None, ()), torn_ends(flats, flats_logs(flats, story))[0])


if __name__ == "__main__":
    unittest.main()
