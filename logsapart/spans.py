"""Spans of places, pairs (first, behind), that lie one behind another from place 0, and how long stretches are."""

from logsapart.basics import is_below, is_number
from logsapart.errors import Refused


def spans_of(lengths):
    """The spans of these lengths."""
    spans = []
    first = 0
    for length in lengths:
        spans.append((first, first + length))
        first = first + length
    return tuple(spans)


def span_with(spans, place):
    """The index of the span in which a place is, None if it is in none."""
    for at, (first, behind) in enumerate(spans):
        if first <= place < behind:
            return at
    return None


def stretch_lengths(divisors, number):
    """A number over each of the divisors, rounded up."""
    return [(number + divisor - 1) // divisor for divisor in divisors]


def number_goes(divisors, value):
    """Whether any value is a number from 1 on with room for its stretches."""
    return is_number(value) and value > 0 and sum(stretch_lengths(divisors, value)) <= value


def need_place(number, place):
    """The place, if any value is one of so many."""
    if not is_below(place, number):
        raise Refused(place)
    return place
