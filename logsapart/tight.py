"""Tight hands: their share is at most 1, but with any mark fewer it would be above 1."""

from logsapart.basics import is_below, sum_of_parts, with_item
from logsapart.errors import Refused
from logsapart.falls import FEWEST_MARKS
from logsapart.hands import FEWEST_HANDS, MOST_MARKS, is_telling

MOST_TIGHT = 5


def is_tight(hands):
    """Whether the share is at most 1, but above 1 if any hand had a mark fewer."""
    # With a share of at most 1 each of two hands or more has two marks at least.
    return is_telling(hands) and all([is_crowded(hands.marks, hand) for hand in range(hands.many)])


def is_crowded(marks, hand):
    """Whether the share is above 1 if a hand has a mark fewer."""
    fewer = with_item(marks, hand, marks[hand] - 1)
    top, bottom = sum_of_parts([1] * len(fewer), fewer)
    return top > bottom


def with_marks(row, left):
    """All rows (marks, top, bottom) with one hand more, none of them having fewer marks than the one ahead.

    What is left of 1 is top over bottom, for so many hands, this one among them.
    """
    marks, top, bottom = row
    fewest = max(marks[-1] if marks else FEWEST_MARKS, bottom // top + 1)
    longer = []
    for k in range(fewest, MOST_MARKS + 1):
        # Tight hands lack less than 1 over k (k - 1), and none of these hands takes more than 1 over k.
        if (left * (k - 1) + 1) * bottom <= top * k * (k - 1):
            break
        longer.append(((*marks, k), top * k - bottom, bottom * k))
    return longer


def tight_marks(many):
    """The tuples, ascending, of so many marks that grow, of tight hands."""
    if not is_below(many, MOST_TIGHT + 1) or many < FEWEST_HANDS:
        raise Refused(many)
    rows = [((), 1, 1)]
    for left in range(many, 1, -1):
        rows = [longer for row in rows for longer in with_marks(row, left)]
    # The last hand has the most marks: if it cannot have fewer, none can.
    ended = [(*marks, (bottom + top - 1) // top) for marks, top, bottom in rows]
    return tuple([marks for marks in ended if marks[-2] <= marks[-1] <= MOST_MARKS])
