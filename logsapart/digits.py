"""Digits: a small place goes with the thing; it and one mark tell the place ahead."""

from logsapart.basics import as_tuples, is_below
from logsapart.errors import Refused
from logsapart.hands import check_story, common_multiple, is_telling, need_hand, need_telling, room
from logsapart.logs import check_logs, empty_logs
from logsapart.spans import need_place, number_goes, span_with, spans_of, stretch_lengths


def least_number(hands):
    """The least number of places that goes, None if none does."""
    if not is_telling(hands):
        return None
    if room(hands) == (0, 1):
        # Nothing may be lost by rounding up, so all marks divide the number.
        return common_multiple(hands)
    number = 1
    needed = sum(stretch_lengths(hands.marks, number))
    # What a number needs all greater ones need, too: none between the two goes.
    while needed > number:
        number = needed
        needed = sum(stretch_lengths(hands.marks, number))
    return number


class Digits:
    """Places of which each hand has a stretch; the least number of them if none is told."""

    def __init__(self, hands, number=None):
        need_telling(hands)
        if number is None:
            self.number = least_number(hands)
        elif number_goes(hands.marks, number):
            self.number = number
        else:
            raise Refused(number)
        self.hands = hands
        self.stretches = spans_of(stretch_lengths(hands.marks, self.number))

    def __eq__(self, other):
        return isinstance(other, Digits) and self.hands == other.hands and self.number == other.number


def place_behind(digits, place, hand):
    """(place, mark) behind a deed of a hand, all being right."""
    first, _ = digits.stretches[hand]
    marks = digits.hands.marks[hand]
    return (first + place // marks, place % marks)


def place_ahead(digits, place, hand, mark):
    """The place ahead of a deed of the hand in whose stretch a place is; None if its mark leads to none."""
    first, _ = digits.stretches[hand]
    ahead = (place - first) * digits.hands.marks[hand] + mark
    if ahead >= digits.number:
        return None
    return ahead


def who_at(digits, place):
    """The hand in whose stretch a place is, None if it is in none."""
    return span_with(digits.stretches, need_place(digits.number, place))


def step(digits, place, hand):
    """(place, mark) behind a deed of a hand."""
    need_place(digits.number, place)
    return place_behind(digits, place, need_hand(digits.hands, hand))


def step_back(digits, place, mark):
    """(hand, place) ahead of the last deed, if it came to this place with this mark."""
    hand = who_at(digits, place)
    if hand is None:
        raise Refused(place)
    if not is_below(mark, digits.hands.marks[hand]):
        raise Refused(mark)
    ahead = place_ahead(digits, place, hand, mark)
    if ahead is None:
        raise Refused(mark)
    return (hand, ahead)


def digit_logs(digits, story, place=0):
    """(place, logs) behind a story that begins at a place."""
    told = check_story(digits.hands, story)
    at = need_place(digits.number, place)
    logs = empty_logs(digits.hands)
    for hand in told:
        at, mark = place_behind(digits, at, hand)
        logs[hand].append(mark)
    return (at, as_tuples(logs))


def digit_story(digits, place, logs):
    """(story, place ahead of it): logs read back from a place as far as they go."""
    at = need_place(digits.number, place)
    return read_back(digits, at, check_logs(digits.hands, logs))


def read_back(digits, place, logs):
    """(story, place ahead of it) of logs read back from a place, all being right."""
    at = place
    rows = [list(log) for log in logs]
    story = []
    hand = span_with(digits.stretches, at)
    while hand is not None and rows[hand]:
        ahead = place_ahead(digits, at, hand, rows[hand].pop())
        if ahead is None:
            break
        at = ahead
        story.append(hand)
        hand = span_with(digits.stretches, at)
    return (tuple(story[::-1]), at)
