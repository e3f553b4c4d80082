"""A store that is led by lines of text."""

from logsapart.errors import BadText
from logsapart.store import MOST_CELLS, Store, deeds_of, store_of
from logsapart.texts import NONE, need_text, read_hands, row_text

MOST_FIGURES = 9
REFUSED = "refused"
OK = "ok"


def word_number(word):
    """The number of a word of at most nine figures, None if it is no such word."""
    if not 0 < len(word) <= MOST_FIGURES or not all([sign in "0123456789" for sign in word]):
        return None
    if len(word) > 1 and word[0] == "0":
        return None
    return int(word)


def word_numbers(words):
    """The numbers of some words, None if one of them tells none."""
    numbers = [word_number(word) for word in words]
    if not all([number is not None for number in numbers]):
        return None
    return numbers


def read_cells(line):
    """The numbers of the line of cells, None if it is no such line."""
    words = line.split(" ")
    if words[0] != "cells" or not 1 <= len(words) - 1 <= MOST_CELLS:
        return None
    return word_numbers(words[1:])


def hand_text(hand):
    """A hand as a word."""
    if hand is None:
        return NONE
    return str(hand)


def rows_text(rows):
    """Rows of numbers with a comma and a blank between."""
    if not rows:
        return NONE
    return ", ".join([row_text(row) for row in rows])


class Desk:
    """A store led by lines: that of hands and that of cells tell how it begins."""

    def __init__(self, text):
        lines = need_text(text).split("\n")
        hands = read_hands(lines[0])
        cells = read_cells(lines[1]) if len(lines) > 1 else None
        if cells is None:
            raise BadText(2)
        if len(lines) > 2:
            raise BadText(3)
        self.store = Store(hands, cells)

    def say(self, line):
        """What the store answers to a line."""
        words = need_text(line).split(" ")
        numbers = word_numbers(words[1:])
        if numbers is None:
            raise BadText(0)
        if len(words) == 1:
            return self.plain_answer(words[0])
        if words[0] == "put" and len(numbers) == 3:
            return self.answer_to_put(*numbers)
        if words[0] in ("done", "undone") and len(numbers) == 1:
            return self.answer_of_log(words[0], numbers[0])
        raise BadText(0)

    def answer_to_put(self, hand, cell, number):
        """Lets a hand write a number into a cell."""
        if hand >= self.store.hands.many or cell >= len(self.store.cells):
            return REFUSED
        return str(self.store.put(hand, cell, number))

    def answer_of_log(self, word, hand):
        """The entries of a hand that are done, or undone."""
        if hand >= self.store.hands.many:
            return REFUSED
        logs = self.store.done if word == "done" else self.store.undone
        return rows_text(logs[hand])

    def plain_answer(self, word):
        """What the store answers to a line of one word."""
        store = self.store
        if word == "undo":
            return hand_text(store.undo_last())
        if word == "redo":
            return hand_text(store.redo_next())
        if word == "who":
            return hand_text(store.who_undoes()) + " " + hand_text(store.who_redoes())
        if word == "cells":
            return row_text(store.cells)
        if word == "anew":
            self.store = store_of(store.hands, store.sheet())
            return OK
        return deeds_text(store, word)


def deeds_text(store, word):
    """The cells at first, the deeds done, or those to be redone."""
    if word not in ("first", "deeds", "left"):
        raise BadText(0)
    first, deeds, left = deeds_of(store.hands, store.sheet())
    if word == "first":
        return row_text(first)
    return rows_text(deeds if word == "deeds" else left)
