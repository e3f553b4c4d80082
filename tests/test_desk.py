"""Point 60: desks that are led by lines."""

import random
import unittest

from logsapart.desk import Desk
from logsapart.hands import Hands
from logsapart.store import Store, deeds_of
from support import Raising, any_values, raised, told

TEXT = "hands 2 3 6\ncells 0 5"
LINES = (
    "put 0 1 5", "put 1 0 999999999", "put 2 1 0", "undo", "redo", "who", "cells", "first", "deeds", "left", "done 0", "undone 2",
    "anew",
)
NO_LINES = (
    "", " ", "put", "put 0", "put 0 1", "put 0 1 5 6", "put 0 1 5 ", " put 0 1 5", "put  0 1 5", "put 0  1 5", "put 00 1 5",
    "put 0 01 5", "put 0 1 05", "put 0 1 1000000000", "put 1000000000 0 0", "put 0 1000000000 0", "put 0 1 -1", "put 0 1 +1",
    "put 0 1 5.", "put 0 1 x", "put a 1 5", "Put 0 1 5", "PUT 0 1 5", "put\t0 1 5", "put 0 1 5\n", "put 0 1 1_0", "put 0 1 -",
    "undo 1", "undo ", "undo\n", "Undo", "redo 0", "who 0", "cells 0", "first 1", "deeds 0", "left 0", "anew 0", "ok", "refused",
    "done", "done ", "done 0 0", "done -1", "done x", "done 0000000000", "done 1234567890", "undone", "undone 01", "undone 0 1",
    "hands 2 2", "cells 0 5", "sheet", "-", "0", "put 0 1 \u0665", "done \u00b2", "undo,", "put 0,1,5",
)


def plain_row(row):
    return " ".join(map(str, row)) if row else "-"


def plain_rows(rows):
    return ", ".join(map(plain_row, rows)) if rows else "-"


def plain_hand(hand):
    return "-" if hand is None else str(hand)


def plain_answer(store, line):
    """What a store answers, done by its own calls."""
    word, *numbers = line.split(" ")
    numbers = [int(number) for number in numbers]
    if word == "put":
        wrong = numbers[0] >= store.hands.many or numbers[1] >= len(store.cells)
        return "refused" if wrong else str(store.put(*numbers))
    if word in ("done", "undone"):
        logs = store.done if word == "done" else store.undone
        return "refused" if numbers[0] >= store.hands.many else plain_rows(logs[numbers[0]])
    if word in ("first", "deeds", "left"):
        first, deeds, left = deeds_of(store.hands, store.sheet())
        return {"first": plain_row(first), "deeds": plain_rows(deeds), "left": plain_rows(left)}[word]
    return {
        "undo": lambda: plain_hand(store.undo_last()),
        "redo": lambda: plain_hand(store.redo_next()),
        "who": lambda: plain_hand(store.who_undoes()) + " " + plain_hand(store.who_redoes()),
        "cells": lambda: plain_row(store.cells),
        "anew": lambda: "ok",
    }[word]()


class Making(Raising, unittest.TestCase):
    def test_texts(self):
        for text, marks, cells in (
            (TEXT, (2, 3, 6), (0, 5)), ("hands 2 2\ncells 0", (2, 2), (0,)), ("hands 60 60\ncells 999999999", (60, 60), (999999999,)),
            ("hands" + " 8" * 8 + "\ncells" + " 1" * 20, (8,) * 8, (1,) * 20),
        ):
            desk = Desk(text=text)
            self.assertIsInstance(desk.store, Store)
            self.assertEqual((Hands(marks), cells), (desk.store.hands, desk.store.cells))
            self.assertEqual(Store(Hands(marks), cells).sheet(), desk.store.sheet())

    def test_wrong_texts(self):
        for value in any_values():
            if not isinstance(value, str):
                self.assertEqual(("BadText", {"at": 0}), told(raised(Desk, value)))
        first = ("", "hands", "hands 2", "hands 2 2 ", "hands 02 2", "hands 2 61", "hands 0 2", "cells 0", " hands 2 2", "hands  2 2")
        for line in first:
            for rest in ("", "\ncells 0", "\ncells x", "\ncells 0\n", "\n\n"):
                self.assertEqual(("BadText", {"at": 1}), told(raised(Desk, line + rest)))
        second = (
            "", "cells", "cells ", "cells -", "cells 0 ", "cells  0", "cells 00", "cells 01", "cells 1000000000", "cells 0000000000",
            "cells -1", "cells x", "cells 0,1", "Cells 0", "hands 2 2", "cells" + " 0" * 21, "cells 0\t1", "cells \u0661",
        )
        for line in second:
            for rest in ("", "\n", "\nput 0 0 0"):
                self.assertEqual(("BadText", {"at": 2}), told(raised(Desk, "hands 2 2\n" + line + rest)))
        # The second line lacks; then there are more than two.
        self.assertEqual(("BadText", {"at": 2}), told(raised(Desk, "hands 2 2")))
        for rest in ("\n", "\n\n", "\nput 0 0 0"):
            self.assertEqual(("BadText", {"at": 3}), told(raised(Desk, TEXT + rest)))

    def test_errors_of_the_store(self):
        self.must_lack_telling(3, 2, Desk, "hands 1 2\ncells 0")
        self.assertEqual(("TooGreat", {"most": 10 ** 9}), told(raised(Desk, "hands 59 53 47 43 41 37\ncells 0")))
        # Behind those of the text.
        self.assertEqual(("BadText", {"at": 2}), told(raised(Desk, "hands 1 1\ncells")))
        self.assertEqual(("BadText", {"at": 3}), told(raised(Desk, "hands 1 1\ncells 0\n")))


class Saying(Raising, unittest.TestCase):
    def test_in_any_order(self):
        source = random.Random(130)
        for marks, cells in (((2, 3, 6), (0, 5)), ((2, 2), (7,)), ((2, 4), (1, 2, 3)), ((60, 59, 58), (0,) * 20)):
            desk = Desk("hands " + plain_row(marks) + "\ncells " + plain_row(cells))
            store = Store(Hands(marks), cells)
            for _ in range(400):
                line = self.any_line(source, len(marks), len(cells))
                held = desk.store
                self.assertEqual(plain_answer(store, line), desk.say(line), line)
                self.assertEqual(store.sheet(), desk.store.sheet())
                self.assertEqual(line == "anew", desk.store is not held)

    def any_line(self, source, hands, cells):
        kind = source.randrange(8)
        if kind < 2:
            number = source.choice((0, 9, 999999999, source.randrange(100)))
            return f"put {source.randrange(hands + (kind == 1))} {source.randrange(cells + (kind == 1))} {number}"
        if kind == 2:
            return f"{source.choice(('done', 'undone'))} {source.randrange(hands + 1)}"
        return source.choice([line for line in LINES if " " not in line] + ["undo"] * 3)

    def test_each_form(self):
        desk = Desk(TEXT)
        lines = [
            ("who", "- -"), ("deeds", "-"), ("left", "-"), ("done 0", "-"), ("undone 2", "-"), ("undo", "-"), ("redo", "-"),
            ("cells", "0 5"), ("first", "0 5"), ("put 0 1 6", "0"), ("put 0 0 999999999", "0"), ("put 2 1 7", "5"),
            ("cells", "999999999 7"), ("deeds", "0 1 6, 0 0 999999999, 2 1 7"), ("done 0", "0 1 5 6, 0 0 0 999999999"),
            ("done 2", "5 1 6 7"), ("who", "2 -"), ("undo", "2"), ("undo", "0"), ("left", "0 0 999999999, 2 1 7"),
            ("undone 0", "1 0 0 999999999"), ("who", "0 0"), ("first", "0 5"), ("anew", "ok"), ("redo", "0"), ("cells", "999999999 6"),
            ("deeds", "0 1 6, 0 0 999999999"), ("left", "2 1 7"), ("undone 1", "-"),
        ]
        for line, answer in lines:
            self.assertEqual(answer, desk.say(line), line)
        self.assertEqual("0", desk.say(line="undo"))

    def test_no_such_hand_or_cell(self):
        desk = Desk(TEXT)
        desk.say("put 1 1 1")
        desk.say("undo")
        before, held = desk.store.sheet(), desk.store
        for line in ("put 3 0 0", "put 0 2 0", "put 3 2 0", "put 999999999 0 0", "put 0 999999999 0", "done 3", "undone 3",
                     "done 999999999"):
            self.assertEqual("refused", desk.say(line))
        self.assertEqual(before, desk.store.sheet())
        self.assertIs(held, desk.store)

    def test_lines_of_no_form(self):
        desk = Desk(TEXT)
        desk.say("put 1 1 1")
        desk.say("put 0 1 1")
        desk.say("undo")
        before, held = desk.store.sheet(), desk.store
        for value in any_values() + list(NO_LINES) + [10 ** 30, TEXT]:
            self.assertEqual(("BadText", {"at": 0}), told(raised(desk.say, value)), value)
        self.assertEqual(before, desk.store.sheet())
        self.assertIs(held, desk.store)

    def test_a_store_made_anew_is_another_one(self):
        desk = Desk(TEXT)
        desk.say("put 1 1 1")
        old = desk.store
        self.assertEqual("ok", desk.say("anew"))
        self.assertIsNot(old, desk.store)
        desk.say("undo")
        self.assertEqual((0, 1), (old.cells[0], old.cells[1]))
        self.assertEqual((0, 5), desk.store.cells)


if __name__ == "__main__":
    unittest.main()
