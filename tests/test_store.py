"""Points 54 to 57: stores, undoing and redoing, sheets, and what a crash between log and cell leaves."""

import random
import unittest
from itertools import product

from logsapart.errors import NoHand, NoTelling, Refused, TooGreat
from logsapart.hands import Hands
from logsapart.store import Store, deeds_of, mended_sheet, store_of
from support import Raising, any_values, fraction_share, is_deep_tuple, raised, small_hands, telling_hands, told

SIX = Hands((2, 3, 6))
PAIR = Hands((2, 2))
TOP = 999999999
WRONG_CELLS = any_values() + [(TOP + 1,), [0] * 21, (0, -1), (0, None), (0, True), 5]


class PlainStore:
    """A store by an own list of deeds; each mark is found by trying all of its hand."""

    def __init__(self, hands, cells):
        self.marks, self.cells, self.first = hands.marks, list(cells), tuple(cells)
        self.size = 1
        for k in self.marks:
            while self.size % k:
                self.size += 1
        while any(self.size % k for k in self.marks):
            self.size += 1
        # (hand, entry) one behind another, done and undone.
        self.done, self.undone = [], []

    def mark(self, stack, hand):
        """The only mark that brings the place of the stack's last marks into the hand's arc."""
        last = [0] * len(self.marks)
        for who, entry in stack:
            last[who] = entry[0]
        first = sum(self.size // k for k in self.marks[:hand])
        right = []
        for mark in range(self.marks[hand]):
            last[hand] = mark
            place = sum(m * (self.size // k) for m, k in zip(last, self.marks)) % self.size
            if first <= place < first + self.size // self.marks[hand]:
                right.append(mark)
        (mark,) = right
        return mark

    def put(self, hand, cell, number):
        mark = self.mark(self.done, hand)
        self.done.append((hand, (mark, cell, self.cells[cell], number)))
        self.undone = []
        self.cells[cell] = number
        return mark

    def turn(self, stack, other, at):
        if not stack:
            return None
        hand, entry = stack.pop()
        self.cells[entry[1]] = entry[at]
        other.append((hand, (self.mark(other, hand), *entry[1:])))
        return hand

    def undo_last(self):
        return self.turn(self.done, self.undone, 2)

    def redo_next(self):
        return self.turn(self.undone, self.done, 3)

    def logs(self, stack):
        return tuple(tuple(entry for who, entry in stack if who == hand) for hand in range(len(self.marks)))

    def sheet(self):
        return tuple(self.cells), self.logs(self.done), self.logs(self.undone)

    def deeds(self):
        return (self.first, tuple((hand, entry[1], entry[3]) for hand, entry in self.done),
                tuple((hand, entry[1], entry[3]) for hand, entry in reversed(self.undone)))

    def who(self):
        return [stack[-1][0] if stack else None for stack in (self.done, self.undone)]


def random_step(source, store, plain):
    """Does one thing to both; (what it returned in each, how it was done)."""
    kind = source.randrange(5)
    if kind < 2:
        hand, cell = source.randrange(len(plain.marks)), source.randrange(len(plain.cells))
        number = source.choice((0, 1, 2, TOP, source.randrange(TOP)))
        return store.put(hand, cell, number), plain.put(hand, cell, number)
    if kind < 4:
        return store.undo_last(), plain.undo_last()
    return store.redo_next(), plain.redo_next()


def stores():
    source = random.Random(100)
    told = [(SIX, (0, 0)), (PAIR, (5,)), (Hands((2, 4)), (1, 2, 3)), (Hands((60, 60)), (TOP,)), (Hands((8,) * 8), (0,) * 20)]
    for hands in source.sample(telling_hands(5, (2, 3)), 25):
        told.append((hands, [source.randrange(TOP + 1) for _ in range(source.randrange(1, 5))]))
    return told


def lists(value):
    return [lists(item) for item in value] if isinstance(value, tuple) else value


def some_stores(seed, steps):
    source = random.Random(seed)
    for hands, cells in stores():
        store, plain = Store(hands, cells), PlainStore(hands, cells)
        for _ in range(source.randrange(steps + 1)):
            random_step(source, store, plain)
        yield hands, store, plain


class Making(Raising, unittest.TestCase):
    def test_attributes(self):
        cells = [1, 2, 3]
        store = Store(hands=SIX, cells=cells)
        cells[0] = 9
        self.assertEqual((SIX, (1, 2, 3), ((), (), ()), ((), (), ())), (store.hands, store.cells, store.done, store.undone))
        self.assertEqual((None, None), (store.who_undoes(), store.who_redoes()))
        self.assertEqual((1, 20), (len(Store(SIX, (TOP,)).cells), len(Store(SIX, [0] * 20).cells)))

    def test_errors_in_their_order(self):
        for value in WRONG_CELLS + [[True]]:
            if value not in ((0,), (0, 0)) and repr(value) != "[1]":
                self.must_raise(Refused, value, Store, SIX, value)
        for hands in small_hands(4):
            share = fraction_share(hands.marks)
            if share > 1:
                for call in (Store, deeds_of, store_of, mended_sheet):
                    self.must_lack_telling(share.numerator, share.denominator, call, hands, None)
        for call in (Store, deeds_of, store_of, mended_sheet):
            self.must_raise(TooGreat, 10 ** 9, call, Hands((59, 53, 47, 43, 41, 37)), None)

    def test_wrong_puts_change_nothing(self):
        store = Store(SIX, (0, 7))
        store.put(0, 0, 1)
        store.put(2, 1, 1)
        store.undo_last()
        before = store.sheet()
        for value in any_values() + [3, 10 ** 30]:
            self.must_raise(NoHand, value, store.put, value, None, None)
        for value in any_values() + [2, 10 ** 30]:
            self.must_raise(Refused, value, store.put, 0, value, None)
        for value in any_values() + [TOP + 1, 10 ** 30]:
            self.must_raise(Refused, value, store.put, 0, 1, value)
        self.assertEqual(before, store.sheet())
        self.assertEqual((0, 1, TOP), (store.put(hand=1, cell=1, number=TOP) * 0, 1, store.cells[1]))


class PuttingUndoingRedoing(unittest.TestCase):
    def check(self, store, plain):
        self.assertEqual(plain.sheet(), store.sheet())
        self.assertEqual(plain.sheet(), (store.cells, store.done, store.undone))
        self.assertEqual(plain.who(), [store.who_undoes(), store.who_redoes()])

    def test_in_any_order(self):
        source = random.Random(101)
        for hands, cells in stores():
            store, plain = Store(hands, cells), PlainStore(hands, cells)
            for _ in range(60):
                returned, expected = random_step(source, store, plain)
                self.assertEqual(expected, returned)
                self.check(store, plain)
            self.assertTrue(is_deep_tuple(store.sheet()))

    def test_all_short_ways(self):
        for hands in (PAIR, SIX, Hands((2, 4))):
            for ways in product(range(4), repeat=5):
                store, plain = Store(hands, (3,)), PlainStore(hands, (3,))
                for at, way in enumerate(ways):
                    if way < 2:
                        self.assertEqual(plain.put(way, 0, at), store.put(way, 0, at))
                    elif way == 2:
                        self.assertEqual(plain.undo_last(), store.undo_last())
                    else:
                        self.assertEqual(plain.redo_next(), store.redo_next())
                    self.check(store, plain)

    def test_nothing_to_undo_or_redo(self):
        store = Store(SIX, (4,))
        self.assertEqual((None, None), (store.undo_last(), store.redo_next()))
        self.assertEqual(((4,), ((), (), ()), ((), (), ())), store.sheet())
        store.put(1, 0, 5)
        self.assertIsNone(store.redo_next())
        self.assertEqual((1, None, 1, None), (store.undo_last(), store.undo_last(), store.redo_next(), store.redo_next()))

    def test_a_put_empties_the_undone_logs(self):
        store = Store(SIX, (0,))
        for hand in (0, 1, 2, 1):
            store.put(hand, 0, hand + 1)
        self.assertEqual([1, 2, 1], [store.undo_last() for _ in range(3)])
        self.assertEqual(3, sum(map(len, store.undone)))
        store.put(2, 0, 9)
        self.assertEqual((((), (), ()), None, None), (store.undone, store.who_redoes(), store.redo_next()))
        self.assertEqual([2, 0, None], [store.undo_last() for _ in range(3)])
        self.assertEqual((0,), store.cells)

    def test_undone_in_the_opposite_order_and_redone(self):
        source = random.Random(102)
        for hands, cells in stores():
            store = Store(hands, cells)
            states, told = [store.cells], []
            for _ in range(20):
                told.append(source.randrange(hands.many))
                store.put(told[-1], source.randrange(len(store.cells)), source.randrange(9))
                states.append(store.cells)
            for at in range(20, 0, -1):
                self.assertEqual((told[at - 1], states[at]), (store.who_undoes(), store.cells))
                self.assertEqual(told[at - 1], store.undo_last())
            self.assertEqual(tuple(cells), store.cells)
            for at in range(20):
                self.assertEqual(told[at], store.redo_next())
                self.assertEqual(states[at + 1], store.cells)

    def test_to_the_limits(self):
        source = random.Random(103)
        hands = Hands((8,) * 8)
        store, plain = Store(hands, [0] * 20), PlainStore(hands, [0] * 20)
        for _ in range(300):
            hand, cell, number = source.randrange(8), source.randrange(20), source.randrange(TOP + 1)
            self.assertEqual(plain.put(hand, cell, number), store.put(hand, cell, number))
        for _ in range(150):
            self.assertEqual(plain.undo_last(), store.undo_last())
        self.check(store, plain)
        self.assertEqual(plain.deeds(), deeds_of(hands, store.sheet()))


class Sheets(Raising, unittest.TestCase):
    def test_read_to_deeds(self):
        for hands, store, plain in some_stores(104, 30):
            self.assertEqual(plain.deeds(), deeds_of(hands, store.sheet()))
            self.assertEqual(plain.deeds(), deeds_of(hands=hands, sheet=lists(store.sheet())))
            self.assertTrue(is_deep_tuple(deeds_of(hands, lists(store.sheet()))))

    def test_no_two_have_the_same_sheet(self):
        seen = {}
        for hands in (PAIR,):
            for ways in product(range(4), repeat=5):
                plain = PlainStore(hands, (1,))
                for at, way in enumerate(ways):
                    if way < 2:
                        plain.put(way, 0, 7)
                    else:
                        (plain.undo_last if way == 2 else plain.redo_next)()
                self.assertEqual(plain.deeds(), seen.setdefault(plain.sheet(), plain.deeds()))

    def test_a_store_of_a_sheet_goes_on(self):
        source = random.Random(105)
        for hands, store, plain in some_stores(106, 30):
            anew = store_of(hands=hands, sheet=lists(store.sheet()))
            self.assertEqual((hands, store.sheet()), (anew.hands, anew.sheet()))
            self.assertTrue(is_deep_tuple(anew.sheet()))
            for _ in range(30):
                returned, expected = random_step(source, anew, plain)
                self.assertEqual(expected, returned)
                self.assertEqual(plain.sheet(), anew.sheet())

    def test_values_that_are_no_sheets(self):
        values = any_values() + [
            ((0,), ((), (), ())), ((0,), ((), (), ()), ((), (), ()), ()), ((0,), ((), ()), ((), (), ())),
            ((0,), ((), (), ()), ((), ())), ((0,), ((), (), 0), ((), (), ())), ((0,), ((), (), ()), ((), None, ())),
        ]
        values += [(cells, ((), (), ()), ((), (), ())) for cells in WRONG_CELLS if cells not in ((0,), [1], (0, 0))]
        entries = any_values() + [
            (0, 0, 0), (0, 0, 0, 0, 0), (2, 0, 0, 0), (0, 1, 0, 0), (0, 0, TOP + 1, 0), (0, 0, 0, TOP + 1), (-1, 0, 0, 0),
            (False, 0, 0, 0), (0, False, 0, 0), (0, 0, None, 0), (0, 0, 0, "0"),
        ]
        values += [((0,), ([entry], (), ()), ((), (), ())) for entry in entries]
        values += [((0,), ((), (), ()), ([entry], (), ())) for entry in entries]
        for value in values:
            for call in (deeds_of, store_of, mended_sheet):
                self.must_raise(Refused, value, call, SIX, value)

    def test_one_place_spoilt(self):
        refused = 0
        for hands, store, plain in some_stores(107, 12):
            sheet = lists(store.sheet())
            for spoilt in self.spoilt(sheet, hands):
                if raised(deeds_of, hands, spoilt) is not None:
                    refused += 1
                    self.must_raise(Refused, spoilt, deeds_of, hands, spoilt)
                    self.must_raise(Refused, spoilt, store_of, hands, spoilt)
                else:
                    self.check_made(hands, spoilt)
        self.assertGreater(refused, 300)

    def spoilt(self, sheet, hands):
        """Sheets with one number changed, one entry struck, or one more."""
        told = []
        for at in range(len(sheet[0])):
            told.append([sheet[0][:at] + [(sheet[0][at] + 1) % 10 ** 9] + sheet[0][at + 1:], sheet[1], sheet[2]])
        for part in (1, 2):
            for hand, log in enumerate(sheet[part]):
                for at, entry in enumerate(log):
                    for item, bound in enumerate((hands.marks[hand], len(sheet[0]), 10 ** 9, 10 ** 9)):
                        changed = entry[:item] + [(entry[item] + 1) % bound] + entry[item + 1:]
                        if changed != entry:
                            told.append(self.with_log(sheet, part, hand, log[:at] + [changed] + log[at + 1:]))
                    told.append(self.with_log(sheet, part, hand, log[:at] + log[at + 1:]))
                told.append(self.with_log(sheet, part, hand, log + [[0, 0, 0, 0]]))
        return told

    def with_log(self, sheet, part, hand, log):
        logs = [log if at == hand else other for at, other in enumerate(sheet[part])]
        return [logs if at == part else other for at, other in enumerate(sheet)]

    def check_made(self, hands, sheet):
        """A sheet is one if a store comes to it by the deeds that it is said to tell."""
        first, done, undone = deeds_of(hands, sheet)
        plain = PlainStore(hands, first)
        for hand, cell, number in done + undone:
            plain.put(hand, cell, number)
        for _ in undone:
            plain.undo_last()
        self.assertEqual(sheet, lists(plain.sheet()))
        self.assertEqual((first, done, undone), plain.deeds())

    def test_all_small_sheets(self):
        # All sheets of two hands with two entries at most in one cell of 0 or 1: those that some store comes to.
        come_to = set()
        for first in (0, 1):
            for ways in product([None, *product((0, 1), (0, 1))], repeat=2):
                for undone in range(3):
                    plain = PlainStore(PAIR, (first,))
                    for way in ways:
                        if way is not None:
                            plain.put(way[0], 0, way[1])
                    for _ in range(undone):
                        plain.undo_last()
                    come_to.add(plain.sheet())
        entries = list(product((0, 1), (0,), (0, 1), (0, 1)))
        found = 0
        for lengths in product(range(3), repeat=4):
            rows = [product(entries, repeat=length) for length in lengths]
            for logs in product(*rows) if sum(lengths) <= 2 else ():
                for cell in (0, 1):
                    sheet = ((cell,), logs[:2], logs[2:])
                    self.assertEqual(sheet in come_to, raised(deeds_of, PAIR, sheet) is None)
                    found += sheet in come_to
        self.assertEqual(len(come_to), found)


class Crashes(Raising, unittest.TestCase):
    def test_a_sheet_comes_to_itself(self):
        for hands, store, _ in some_stores(108, 20):
            self.assertEqual(store.sheet(), mended_sheet(hands, lists(store.sheet())))
            self.assertTrue(is_deep_tuple(mended_sheet(hands=hands, sheet=lists(store.sheet()))))

    def test_between_the_logs_and_the_cell(self):
        source = random.Random(109)
        for hands, cells in stores():
            store, plain = Store(hands, cells), PlainStore(hands, cells)
            for _ in range(40):
                before = store.cells
                random_step(source, store, plain)
                self.assertEqual(store.sheet(), mended_sheet(hands, (before, store.done, store.undone)))
                self.assertEqual(store.sheet(), mended_sheet(hands, [list(before), lists(store.done), lists(store.undone)]))

    def test_of_which_one_cell_may_be_wrong(self):
        store = Store(SIX, (0, 0))
        store.put(0, 0, 7)
        store.put(1, 1, 8)
        # The last deed's cell may hold anything; another one may not.
        for number in (0, 5, TOP):
            self.assertEqual(store.sheet(), mended_sheet(SIX, ((7, number), store.done, store.undone)))
        for cells in ((6, 8), (0, 0), (7, 8, 9)[:1]):
            sheet = (cells, store.done, store.undone)
            self.must_raise(Refused, sheet, mended_sheet, SIX, sheet)
        store.undo_last()
        # Now also the one that is to be redone first.
        self.assertEqual(store.sheet(), mended_sheet(SIX, ((1, 8), store.done, store.undone)))

    def test_what_comes_to_no_sheet(self):
        for hands, store, plain in some_stores(110, 12):
            cells, done, undone = store.sheet()
            told_cells = {stack[-1][1][1] for stack in (plain.done, plain.undone) if stack}
            used = {entry[1] for _, entry in plain.done + plain.undone}
            for at in used - told_cells:
                sheet = (cells[:at] + ((cells[at] + 1) % 10 ** 9,) + cells[at + 1:], done, undone)
                self.must_raise(Refused, sheet, mended_sheet, hands, sheet)
            for at in told_cells:
                sheet = (cells[:at] + ((cells[at] + 1) % 10 ** 9,) + cells[at + 1:], done, undone)
                self.assertEqual(store.sheet(), mended_sheet(hands, sheet))
        # The entry done last and the one undone last tell unlike numbers of one cell.
        sheet = ((0,), (((0, 0, 0, 1),), ()), (((0, 0, 2, 3),), ()))
        self.must_raise(Refused, sheet, mended_sheet, PAIR, sheet)
        good = ((0,), (((0, 0, 0, 2),), ()), (((0, 0, 2, 3),), ()))
        self.assertEqual(((2,), *good[1:]), mended_sheet(PAIR, good))

    def test_errors_of_the_dial_come_first(self):
        for call in (deeds_of, store_of, mended_sheet):
            self.assertIs(NoTelling, raised(call, Hands((1, 1)), ((0,), ((), ()), ((), ()))).__class__)
            self.assertEqual(("TooGreat", {"most": 10 ** 9}), told(raised(call, Hands((59, 53, 47, 43, 41, 37)), 0)))


if __name__ == "__main__":
    unittest.main()
