"""Points 28 to 31: tables, lines, marks by tables, and papers about places told ahead."""

import random
import unittest
from itertools import product
from math import prod

from logsapart.dials import Dial, logs_of, who_last
from logsapart.errors import BadLogs, BadStory, NoHand, Refused, TooGreat
from logsapart.hands import Hands, share
from logsapart.tables import (
    Table, all_lasts, bad_line, dial_table, is_good, table_holds, table_logs, table_mark, table_paper, table_story,
    table_who,
)
from support import (
    Raising, all_logs, any_values, fraction_share, is_deep_tuple, not_of_length, small_hands, stories_up_to,
    telling_hands,
)

PAIR = Hands((2, 2))
FEW = Hands((2, 3))
SWAP = (0, 1, 1, 0)
# The first have 4,000 rows of last marks, the others more.
MOST_ROWS = (Hands((2, 4, 10, 50)), Hands((50, 20, 4)), Hands((1, 1, 1, 1, 5, 5, 4, 40)))
TOO_MANY = (Hands((2, 4, 11, 46)), Hands((4, 1001 // 20, 20, 2)), Hands((60,) * 8), Hands((60, 60, 2)))
TOO_MANY_ABOVE_ONE = (Hands((2, 2, 2, 10, 51)), Hands((1, 60, 60, 2)))


def plain_rows(hands):
    return list(product(*[range(marks) for marks in hands.marks]))


def plain_lines(hands):
    """All lines, ascending."""
    return [(hand, row) for hand in range(hands.many) for row in plain_rows(hands) if row[hand] == 0]


def places_of(hands, line):
    hand, last = line
    return [last[:hand] + (mark,) + last[hand + 1:] for mark in range(hands.marks[hand])]


def plain_bad_line(hands, tells):
    told = dict(zip(plain_rows(hands), tells))
    for line in plain_lines(hands):
        if not any(told[place] == line[0] for place in places_of(hands, line)):
            return line
    return None


def all_tables(hands):
    return list(product([None, *range(hands.many)], repeat=len(plain_rows(hands))))


def good_tables(hands):
    return [tells for tells in all_tables(hands) if plain_bad_line(hands, tells) is None]


def more_good_tables():
    """Good tables of several hands, some with several marks that tell a hand."""
    source = random.Random(8)
    told = [Table(PAIR, tells) for tells in good_tables(PAIR)] + [Table(FEW, tells) for tells in good_tables(FEW)[::5]]
    for hands in (Hands((2, 3, 6)), Hands((3, 3, 4)), Hands((3, 5)), Hands((4, 4, 4, 5))):
        for _ in range(3):
            some = [(row, who) for row, who in zip(plain_rows(hands), dial_table(hands).tells) if source.random() < 0.2]
            word, tells = table_paper(hands, some)
            assert word == "table"
            told.append(Table(hands, tells))
            filled = [who if who is not None else source.randrange(hands.many) for who in tells]
            told.append(Table(hands, filled))
    return told


class Rows(Raising, unittest.TestCase):
    def test_all_lasts(self):
        for hands in small_hands(4) + list(MOST_ROWS):
            rows = all_lasts(hands)
            self.assertEqual(tuple(plain_rows(hands)), rows)
            self.assertTrue(is_deep_tuple(rows))
        self.assertEqual([4000] * 3, [len(all_lasts(hands)) for hands in MOST_ROWS])

    def test_more_than_4000(self):
        for hands in TOO_MANY + TOO_MANY_ABOVE_ONE:
            self.assertGreater(prod(hands.marks), 4000)
            self.must_raise(TooGreat, 4000, all_lasts, hands)
            for value in (None, (), (0,) * 4004, "x"):
                self.must_raise(TooGreat, 4000, Table, hands, value)
                self.must_raise(TooGreat, 4000, table_paper, hands, value)
                self.must_raise(TooGreat, 4000, table_holds, hands, value, value)
        for hands in TOO_MANY:
            self.must_raise(TooGreat, 4000, dial_table, hands)
        for hands in TOO_MANY_ABOVE_ONE:
            self.must_lack_telling(*share(hands), dial_table, hands)


class Tables(Raising, unittest.TestCase):
    def test_attributes(self):
        for tells in all_tables(PAIR):
            table = Table(PAIR, list(tells))
            self.assertEqual((PAIR, tells), (table.hands, table.tells))
            self.assertTrue(is_deep_tuple(table.tells))
            for row, who in zip(plain_rows(PAIR), tells):
                self.assertEqual(who, table_who(table, list(row)))
        source = random.Random(9)
        for hands in (FEW, Hands((2, 3, 6)), Hands((1, 4, 2)), MOST_ROWS[0]):
            tells = [source.choice([None, *range(hands.many)]) for _ in plain_rows(hands)]
            table = Table(hands=hands, tells=tells)
            self.assertEqual(tells, [table_who(table, row) for row in plain_rows(hands)])

    def test_equality(self):
        self.assertTrue(Table(PAIR, SWAP) == Table(Hands([2, 2]), list(SWAP)))
        self.assertFalse(Table(PAIR, SWAP) != Table(PAIR, SWAP))
        self.assertFalse(Table(PAIR, SWAP) == Table(PAIR, (0, 1, 1, None)))
        self.assertFalse(Table(PAIR, SWAP) == Table(Hands((1, 4)), SWAP))
        for value in any_values() + [SWAP, Dial(PAIR)]:
            self.assertFalse(Table(PAIR, SWAP) == value)

    def test_wrong_tells(self):
        wrong = not_of_length(4) + [
            (0, 1, 1), (0, 1, 1, 0, 0), (0, 1, 2, 0), (0, 1, -1, 0), [0, True, 1, 0], (0, "1", 1, 0), (0, (1,), 1, 0), SWAP[0],
        ]
        for value in wrong:
            self.must_raise(Refused, value, Table, PAIR, value)

    def test_wrong_last_marks(self):
        table = Table(FEW, (0, 1, 0, 1, 0, 1))
        for value in [v for v in any_values() if v != (0, 0)] + [(2, 0), (0, 3), [0, True], (0,), (0, 0, 0), 0]:
            self.must_raise(Refused, value, table_who, table, value)
            self.must_raise(Refused, value, table_mark, table, value, 9)
        for value in any_values() + [2]:
            self.must_raise(NoHand, value, table_mark, table, [0, 0], value)


class GoodTables(Raising, unittest.TestCase):
    def test_the_least_bad_line(self):
        for hands in (PAIR, Hands((1, 2)), Hands((1, 3)), FEW, Hands((1, 1, 2))):
            for tells in all_tables(hands):
                line = plain_bad_line(hands, tells)
                self.assertEqual(line, bad_line(Table(hands, tells)))
                self.assertIs(line is None, is_good(Table(hands, tells)))

    def test_greater_tables(self):
        source = random.Random(10)
        for hands in (Hands((2, 3, 6)), Hands((4, 4, 4)), Hands((2, 3, 4)), MOST_ROWS[0]):
            tells = list(dial_table(hands).tells) if fraction_share(hands.marks) <= 1 else [0] * len(plain_rows(hands))
            for _ in range(6):
                self.assertEqual(plain_bad_line(hands, tells), bad_line(Table(hands, tells)))
                tells[source.randrange(len(tells))] = source.choice([None, *range(hands.many)])
            self.assertTrue(is_deep_tuple(bad_line(Table(hands, [None] * len(tells)))))

    def test_there_are_some_up_to_a_share_of_one(self):
        for hands in small_hands(3, (2,)):
            if prod(hands.marks) < 9:
                good = good_tables(hands)
                self.assertEqual(fraction_share(hands.marks) <= 1, len(good) > 0)
                if fraction_share(hands.marks) == 1:
                    for tells in good:
                        self.check_tight(hands, tells)
        for hands in telling_hands(4) + [Hands((2, 3, 6)), Hands((4,) * 4)]:
            if fraction_share(hands.marks) == 1:
                self.check_tight(hands, dial_table(hands).tells)

    def check_tight(self, hands, tells):
        self.assertNotIn(None, tells)
        told = dict(zip(plain_rows(hands), tells))
        for line in plain_lines(hands):
            self.assertEqual(1, sum(told[place] == line[0] for place in places_of(hands, line)))

    def test_dial_tables(self):
        for hands in small_hands(4) + [Hands((2, 3, 6)), MOST_ROWS[0], MOST_ROWS[1]]:
            if fraction_share(hands.marks) > 1:
                self.must_lack_telling(*share(hands), dial_table, hands)
                continue
            table = dial_table(hands)
            dial = Dial(hands)
            self.assertEqual(tuple(who_last(dial, row) for row in plain_rows(hands)), table.tells)
            self.assertEqual((hands, True), (table.hands, is_good(table)))


class MarksByTables(Raising, unittest.TestCase):
    def plain_mark(self, table, last, hand):
        marks = [row[hand] for row in places_of(table.hands, (hand, last)) if table_who(table, row) == hand]
        return marks[0] if marks else None

    def test_the_least_mark(self):
        tables = more_good_tables() + [Table(FEW, tells) for tells in all_tables(FEW)[::17]]
        for table in tables:
            for last in plain_rows(table.hands)[::3]:
                for hand in range(table.hands.many):
                    self.assertEqual(self.plain_mark(table, last, hand), table_mark(table, list(last), hand))

    def test_there_and_back(self):
        for table in more_good_tables():
            hands = table.hands
            left = {}
            for story in stories_up_to(hands, 4 if hands.many == 2 else 3):
                logs = table_logs(table, list(story))
                self.assertEqual(self.plain_logs(table, story), logs)
                self.assertNotIn(logs, left)
                left[logs] = story
                self.assertEqual(story, table_story(table, [list(log) for log in logs]))
            self.assertTrue(is_deep_tuple(list(left)[-1]))
            if sum(hands.marks) < 10:
                for logs in all_logs(hands, 3):
                    if logs not in left:
                        self.must_raise(Refused, logs, table_story, table, logs)

    def plain_logs(self, table, story):
        last = [0] * table.hands.many
        logs = [[] for _ in last]
        for hand in story:
            last[hand] = self.plain_mark(table, tuple(last), hand)
            logs[hand].append(last[hand])
        return tuple(map(tuple, logs))

    def test_a_mark_that_tells_but_is_not_the_least(self):
        # With the other hand's mark 0 both 0 and 1 tell hand 0.
        table = Table(Hands((3, 2)), (0, 1, 0, 1, 1, 0))
        self.assertIsNone(bad_line(table))
        self.assertEqual((0, 0), (table_mark(table, (0, 0), 0), table_who(table, (1, 0))))
        self.must_raise(Refused, ((1,), ()), table_story, table, ((1,), ()))
        self.assertEqual((0,), table_story(table, ((0,), ())))

    def test_the_dial_writes_the_same(self):
        for hands in telling_hands(4):
            if fraction_share(hands.marks) == 1:
                for story in stories_up_to(hands, 4):
                    self.assertEqual(logs_of(Dial(hands), story), table_logs(dial_table(hands), story))

    def test_long_stories(self):
        source = random.Random(11)
        for hands in (Hands((2, 3, 6)), MOST_ROWS[0], Hands((5, 5, 5, 5, 6))):
            table = dial_table(hands)
            story = tuple(source.randrange(hands.many) for _ in range(400))
            self.assertEqual(story, table_story(table, table_logs(table, story)))

    def test_errors_in_their_order(self):
        bad = Table(PAIR, (0, 1, 1, None))
        for value in any_values():
            self.must_raise(Refused, bad, table_logs, bad, value)
            self.must_raise(Refused, bad, table_story, bad, value)
        table = dial_table(PAIR)
        for value in any_values() + [2]:
            self.must_raise(BadStory, 1, table_logs, table, (0, value))
        self.must_raise(BadStory, -1, table_logs, table, None)
        for value in not_of_length(2):
            self.must_raise(BadLogs, -1, table_story, table, value)
        self.must_raise(BadLogs, 1, table_story, table, ((), (2,)))
        self.must_raise(Refused, ((1,), ()), table_story, table, ((1,), ()))


def serving(hands, told, line):
    """The places of a line that serve it."""
    wanted = {tuple(last): who for last, who in told}
    return [place for place in places_of(hands, line) if wanted.get(place, line[0]) == line[0]]


def plain_holds(hands, told, paper):
    """Whether a paper of the right form says what is so."""
    word, told_by = paper
    if word == "table":
        wanted = dict(zip(plain_rows(hands), told_by))
        return plain_bad_line(hands, told_by) is None and all(wanted[tuple(last)] == who for last, who in told)
    places = {place for line in told_by for place in serving(hands, told, line)}
    return len(set(told_by)) == len(told_by) > len(places)


def some_told(hands, most, seed):
    source = random.Random(seed)
    rows = source.sample(plain_rows(hands), min(source.randrange(most + 1), len(plain_rows(hands))))
    return [(row, source.choice([None, *range(hands.many)])) for row in rows]


class Papers(Raising, unittest.TestCase):
    def test_by_all_tables(self):
        words = []
        for hands in (PAIR, FEW, Hands((1, 2)), Hands((1, 1)), Hands((3, 2)), Hands((2, 4)), Hands((1, 2, 2))):
            good = good_tables(hands)
            for seed in range(40):
                told = some_told(hands, 5, seed)
                wanted = {plain_rows(hands).index(row): who for row, who in told}
                some = any(all(tells[at] == who for at, who in wanted.items()) for tells in good)
                paper = table_paper(hands, told)
                self.assertEqual("table" if some else "lines", paper[0])
                self.check(hands, told, paper)
                words.append(paper[0])
        self.assertGreater(min(words.count("table"), words.count("lines")), 40)

    def check(self, hands, told, paper):
        self.assertTrue(is_deep_tuple(paper))
        self.assertTrue(plain_holds(hands, told, paper))
        if paper[0] == "lines":
            self.assertEqual(tuple(sorted(set(paper[1]))), paper[1])
            self.assertTrue(all(last[hand] == 0 for hand, last in paper[1]))
        else:
            self.assertEqual(len(plain_rows(hands)), len(paper[1]))
        self.assertIs(True, table_holds(hands, told, paper))
        as_lists = [paper[0], [list(item) if isinstance(item, tuple) else item for item in paper[1]]]
        self.assertIs(True, table_holds(hands, [list(pair) for pair in told], as_lists))

    def test_greater_hands(self):
        words = []
        for hands in (Hands((2, 3, 6)), Hands((4, 4, 4)), Hands((3, 5, 4)), Hands((5, 5, 4, 4)), Hands((2, 3, 4)),
                      Hands((4, 4, 5, 5)), Hands((20, 20)), Hands((1, 20, 20))):
            for seed in range(8):
                told = some_told(hands, (0, 2, 5, 20, 60, 400)[seed % 6], seed)
                paper = table_paper(hands, told)
                self.check(hands, told, paper)
                words.append((paper[0], len(told) > 20))
        for each in product(("table", "lines"), (False, True)):
            self.assertIn(each, words)

    def test_nothing_told(self):
        for hands in small_hands(4):
            paper = table_paper(hands, ())
            self.assertEqual("table" if fraction_share(hands.marks) <= 1 else "lines", paper[0])
            self.check(hands, (), paper)

    def test_all_told(self):
        for hands in (FEW, Hands((2, 3, 6)), Hands((4, 4, 4))):
            tells = list(dial_table(hands).tells)
            told = list(zip(plain_rows(hands), tells))
            self.assertEqual(("table", tuple(tells)), table_paper(hands, told))
            told[0] = (told[0][0], None)
            self.assertEqual("lines", table_paper(hands, told)[0])
            self.check(hands, told, table_paper(hands, told))
            # Where the table tells nobody it may tell anybody.
            told = [(row, who if who is not None else 0) for row, who in zip(plain_rows(hands), tells)]
            self.assertEqual(("table", tuple(who for _, who in told)), table_paper(hands, told))
            self.check(hands, told, table_paper(hands, told))
        told = [(row, None) for row in plain_rows(FEW)]
        self.assertEqual("lines", table_paper(FEW, told)[0])
        self.assertIs(True, table_holds(FEW, told, ("lines", [(0, (0, 0))])))

    def test_equal_calls(self):
        told = [((0, 0), 1)]
        self.assertEqual(table_paper(FEW, told), table_paper(hands=FEW, told=(([0, 0], 1),)))
        self.assertEqual([((0, 0), 1)], told)

    def test_wrong_told(self):
        wrong = [v for v in any_values() if v not in ((), [])] + [
            [((0, 0),)], [((0, 0), 0, 0)], [((0, 0), 2)], [((0, 0), -1)], [((0, 0), True)], [((2, 0), 0)], [((0,), 0)],
            [((0, 3), 1)], [((0, 0), "0")], [((0, False), 0)], [((0, 0), 0), ((0, 0), 0)], [((0, 1), None), ([0, 1], None)],
            [((0, 1), 1), ([0, 1], 0)], [None], [((0, 0), 0), None], (((0, 0), ()),), ((0, 0), 0), 3,
        ]
        for value in wrong:
            self.must_raise(Refused, value, table_paper, FEW, value)
            self.must_raise(Refused, value, table_holds, FEW, value, None)


class Holding(unittest.TestCase):
    def test_by_all_tables_and_lines(self):
        source = random.Random(12)
        for hands in (PAIR, Hands((1, 2)), Hands((1, 1, 1))):
            lines = plain_lines(hands)
            for seed in range(12):
                told = some_told(hands, 3, seed)
                for tells in all_tables(hands):
                    paper = ("table", tells)
                    self.assertIs(plain_holds(hands, told, paper), table_holds(hands, told, paper))
                for taken in product((False, True), repeat=len(lines)):
                    some = [line for line, is_taken in zip(lines, taken) if is_taken]
                    source.shuffle(some)
                    paper = ("lines", some)
                    self.assertIs(plain_holds(hands, told, paper), table_holds(hands, told, paper))

    def test_never_both(self):
        for hands in (PAIR, FEW, Hands((1, 2))):
            for seed in range(20):
                told = some_told(hands, 4, seed)
                tables = any(table_holds(hands, told, ("table", tells)) for tells in all_tables(hands))
                lines = plain_lines(hands)
                some = [[line for line, taken in zip(lines, each) if taken] for each in product((0, 1), repeat=len(lines))]
                self.assertIsNot(tables, any(table_holds(hands, told, ("lines", each)) for each in some))

    def test_forms(self):
        told = [((0, 0), None)]
        lines = table_paper(PAIR, told)[1]
        good = (0, 1, 1, 0)
        self.assertIs(True, table_holds(PAIR, told, ["lines", [[hand, list(last)] for hand, last in lines[::-1]]]))
        self.assertIs(True, table_holds(PAIR, (), ("table", good)))
        for value in any_values():
            for paper in (value, ("table", value), ("lines", value), (value, lines), (value, good), ("lines", (value,)),
                          ("lines", (*lines, value)), ("table", (value, 1, 1, 0)), ("table", good, value), ("table",),
                          ("lines", [(hand, value) for hand, _ in lines]), ("lines", [(value, last) for _, last in lines])):
                self.assertIs(False, table_holds(PAIR, told, paper), paper)
                self.assertIs(False, table_holds(PAIR, (), paper), paper)
        self.assertIs(False, table_holds(PAIR, told, ("lines", (*lines, lines[0]))))
        self.assertIs(False, table_holds(PAIR, told, ("lines", lines, ())))
        self.assertIs(False, table_holds(PAIR, told, ("table", good)))
        self.assertIs(False, table_holds(PAIR, (), ("table", (0, True, 1, 0))))
        self.assertIs(False, table_holds(PAIR, (), ("tables", good)))
        # A line's own mark is 0.
        bare = [(row, None) for row in plain_rows(PAIR)]
        self.assertIs(True, table_holds(PAIR, bare, ("lines", [(0, (0, 1))])))
        self.assertIs(False, table_holds(PAIR, bare, ("lines", [(0, (1, 1))])))
        self.assertIs(False, table_holds(PAIR, bare, ("lines", [(False, (0, 1))])))
        self.assertIs(False, table_holds(PAIR, bare, ("lines", [(0, (0, True))])))
        self.assertIs(False, table_holds(PAIR, bare, ("lines", [])))


if __name__ == "__main__":
    unittest.main()
