"""Rows of last marks, ascending, and how a deed of some hands moves along them."""

from logsapart.basics import is_below, is_sequence, product_of, rows_below
from logsapart.errors import TooGreat

MOST_ROWS = 4000


def rows_many(hands):
    """How many rows of last marks there are, if not more than 4,000."""
    rows = product_of(hands.marks)
    if rows > MOST_ROWS:
        raise TooGreat(MOST_ROWS)
    return rows


def ascending_rows(hands):
    """All rows of last marks, not more than 4,000."""
    rows_many(hands)
    return tuple(rows_below(hands.marks))


def steps_of(hands):
    """By hand how far one mark more leads along the rows."""
    return tuple([product_of(hands.marks[hand + 1:]) for hand in range(hands.many)])


def row_index(steps, last):
    """The index of a row of last marks."""
    return sum([mark * step for mark, step in zip(last, steps)])


def is_tells(value, rows, tellers):
    """Whether any value is a sequence of so many numbers below that of the tellers, or None."""
    if not is_sequence(value) or len(value) != rows:
        return False
    return all([who is None or is_below(who, tellers) for who in value])


def may_tell(only, who):
    """Whether a row of which nothing, or this alone, is told may tell somebody."""
    return not only or only[0] == who


def flat_start(last, lot):
    """The least row that a deed of a lot may leave at last marks: its hands' marks are 0."""
    row = list(last)
    for hand in lot:
        row[hand] = 0
    return tuple(row)


def flat_rows(hands, last, lot):
    """The rows that a deed of a lot may leave at last marks, ascending."""
    rows = []
    for marks in rows_below([hands.marks[hand] for hand in lot]):
        row = list(last)
        for hand, mark in zip(lot, marks):
            row[hand] = mark
        rows.append(tuple(row))
    return tuple(rows)
