"""Kinds of deeds by a number: a small place goes with the thing, as with digits."""

from logsapart.basics import as_tuples, fits_bounds
from logsapart.errors import Refused, TooGreat
from logsapart.kinds import check_meetings, need_kind, need_served
from logsapart.logs import check_logs, empty_logs
from logsapart.spans import need_place, number_goes, span_with, spans_of, stretch_lengths


def kinds_number(kinds, *, most):
    """The least number of places that goes."""
    need_served(kinds)
    number = 1
    while number <= most:
        needed = sum(stretch_lengths(kinds.sizes, number))
        if needed <= number:
            return number
        # What a number needs all greater ones need, too: none between the two goes.
        number = needed
    raise TooGreat(most)


class Tally:
    """Places of which each kind has a stretch."""

    def __init__(self, kinds, number):
        need_served(kinds)
        if not number_goes(kinds.sizes, number):
            raise Refused(number)
        self.kinds = kinds
        self.number = number
        self.stretches = spans_of(stretch_lengths(kinds.sizes, number))
        self.starts = tuple([first for first, behind in self.stretches] + [self.stretches[-1][1]])

    def __eq__(self, other):
        return isinstance(other, Tally) and self.kinds == other.kinds and self.number == other.number


def lot_marks(tally, kind):
    """By hand of a kind's lot the number of its marks."""
    return [tally.kinds.hands.marks[hand] for hand in tally.kinds.lots[kind]]


def written_marks(number, bounds):
    """A number as a row of marks below bounds, the last one running fastest."""
    marks = []
    left = number
    for bound in bounds[::-1]:
        marks.append(left % bound)
        left = left // bound
    return tuple(marks[::-1])


def read_marks(marks, bounds):
    """The number that is written as these marks."""
    number = 0
    for mark, bound in zip(marks, bounds):
        number = number * bound + mark
    return number


def place_behind(tally, place, kind):
    """(place, marks) behind a deed of a kind, all being right."""
    size = tally.kinds.sizes[kind]
    return (tally.starts[kind] + place // size, written_marks(place % size, lot_marks(tally, kind)))


def place_ahead(tally, place, kind, marks):
    """The place ahead of a deed of the kind that a place tells; None if its marks lead to none."""
    whole = (place - tally.starts[kind]) * tally.kinds.sizes[kind] + read_marks(marks, lot_marks(tally, kind))
    if whole >= tally.number:
        return None
    return whole


def meet(tally, place, kind):
    """(place, marks by hand of the lot) behind a deed of a kind."""
    need_place(tally.number, place)
    return place_behind(tally, place, need_kind(tally.kinds, kind))


def kind_at(tally, place):
    """The kind in whose stretch a place is, None if it is in none."""
    return span_with(tally.stretches, need_place(tally.number, place))


def unmeet(tally, place, marks):
    """(kind, place ahead) of the last deed, if it came to this place with these marks."""
    kind = kind_at(tally, place)
    if kind is None:
        raise Refused(place)
    if not fits_bounds(marks, lot_marks(tally, kind)):
        raise Refused(marks)
    ahead = place_ahead(tally, place, kind, marks)
    if ahead is None:
        raise Refused(marks)
    return (kind, ahead)


def tally_logs(tally, story, place=0):
    """(place, logs) behind a story of kinds that begins at a place."""
    told = check_meetings(tally.kinds, story)
    at = need_place(tally.number, place)
    logs = empty_logs(tally.kinds.hands)
    for kind in told:
        at, marks = place_behind(tally, at, kind)
        for hand, mark in zip(tally.kinds.lots[kind], marks):
            logs[hand].append(mark)
    return (at, as_tuples(logs))


def tally_story(tally, place, logs):
    """(story, place ahead of it): logs read back from a place as far as they go."""
    at = need_place(tally.number, place)
    rows = [list(log) for log in check_logs(tally.kinds.hands, logs)]
    story = []
    kind = span_with(tally.stretches, at)
    while kind is not None and all([rows[hand] for hand in tally.kinds.lots[kind]]):
        ahead = place_ahead(tally, at, kind, [rows[hand].pop() for hand in tally.kinds.lots[kind]])
        if ahead is None:
            break
        at = ahead
        story.append(kind)
        kind = span_with(tally.stretches, at)
    return (tuple(story[::-1]), at)
