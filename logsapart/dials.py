"""The dial: last marks add up to a place, and the arc of the place tells who was last."""

from logsapart.basics import as_tuples, with_item
from logsapart.errors import TooGreat
from logsapart.hands import check_story, common_multiple, need_hand, need_telling
from logsapart.logs import empty_logs, need_last
from logsapart.spans import span_with, spans_of

GREATEST_SIZE = 1000000000


class Dial:
    """A dial of hands whose share is at most 1: an arc of places for each hand."""

    def __init__(self, hands):
        need_telling(hands)
        size = common_multiple(hands)
        if size > GREATEST_SIZE:
            raise TooGreat(GREATEST_SIZE)
        self.hands = hands
        self.size = size
        self.arcs = spans_of([size // marks for marks in hands.marks])

    def __eq__(self, other):
        return isinstance(other, Dial) and self.hands == other.hands


def place_of(dial, last):
    """The place of last marks that are right."""
    place = 0
    for mark, marks in zip(last, dial.hands.marks):
        place = place + mark * (dial.size // marks)
    return place % dial.size


def teller(dial, last):
    """Whom last marks that are right tell, None for nobody."""
    return span_with(dial.arcs, place_of(dial, last))


def mark_over(size, marks, without, first):
    """Of so many marks the one that turns a ring of a size from a place to one of an arc from a first one."""
    width = size // marks
    way = (first - without) % size
    # Each mark turns the ring by so many places: so just one of them stops within as many.
    return (way + width - 1) // width % marks


def mark_to(dial, last, hand, first):
    """The mark of a hand that brings the place to one of as many from a first one as a mark turns."""
    marks = dial.hands.marks[hand]
    without = place_of(dial, last) - last[hand] * (dial.size // marks)
    return mark_over(dial.size, marks, without, first)


def turning_mark(dial, last, hand):
    """The mark of a hand that brings the place into its arc, all being right."""
    first, _ = dial.arcs[hand]
    return mark_to(dial, last, hand, first)


def dial_place(dial, last):
    """The place to which last marks turn the dial."""
    return place_of(dial, need_last(dial.hands, last))


def who_last(dial, last):
    """The hand in whose arc the place of last marks is, None if it is in no arc."""
    return teller(dial, need_last(dial.hands, last))


def mark_of(dial, last, hand):
    """The mark of a hand that acts when these are the last marks."""
    row = need_last(dial.hands, last)
    return turning_mark(dial, row, need_hand(dial.hands, hand))


def logs_of(dial, story):
    """The logs that a story leaves."""
    told = check_story(dial.hands, story)
    last = [0] * dial.hands.many
    logs = empty_logs(dial.hands)
    for hand in told:
        last[hand] = turning_mark(dial, last, hand)
        logs[hand].append(last[hand])
    return as_tuples(logs)


class DialDesk:
    """A desk that hears deeds and keeps the last marks alone, and how many deeds there were."""

    def __init__(self, hands):
        self.dial = Dial(hands)
        self.last = (0,) * hands.many
        self.deeds = 0

    def act(self, hand):
        """Hears a deed of a hand; returns its mark."""
        mark = mark_of(self.dial, self.last, hand)
        self.last = with_item(self.last, hand, mark)
        self.deeds += 1
        return mark

    def who(self):
        """The hand that acted last, None if none did."""
        if self.deeds == 0:
            return None
        return teller(self.dial, self.last)
