"""Riders: things that deeds carry besides, told by a dial with places for each thing of each hand."""

from logsapart.basics import as_tuples, is_below, is_sequence, sum_of_parts
from logsapart.dials import GREATEST_SIZE, mark_to, place_of
from logsapart.errors import BadStory, Refused, TooGreat
from logsapart.hands import LONGEST, check_share, common_multiple, need_hand
from logsapart.logs import check_logs, empty_logs, need_last
from logsapart.rates import need_riders
from logsapart.reading import struck_back
from logsapart.spans import span_with, spans_of


def riders_share(hands, riders):
    """The sum of riders over marks: (top, bottom) in least terms."""
    return sum_of_parts(need_riders(hands, riders), hands.marks)


class Carrier:
    """A dial on which each hand has places for each thing that its deeds may carry."""

    def __init__(self, hands, riders):
        top, bottom = riders_share(hands, riders)
        check_share(top, bottom)
        size = common_multiple(hands)
        if size > GREATEST_SIZE:
            raise TooGreat(GREATEST_SIZE)
        self.hands = hands
        self.riders = tuple(riders)
        self.size = size
        self.arcs = spans_of([size // marks * things for marks, things in zip(hands.marks, self.riders)])

    def __eq__(self, other):
        return isinstance(other, Carrier) and self.hands == other.hands and self.riders == other.riders


def carrying_mark(carrier, last, hand, thing):
    """The mark of a hand that acts with a thing, all being right."""
    first, _ = carrier.arcs[hand]
    return mark_to(carrier, last, hand, first + thing * (carrier.size // carrier.hands.marks[hand]))


def carried(carrier, last):
    """(hand, thing) that last marks tell, all being right; None for none."""
    place = place_of(carrier, last)
    hand = span_with(carrier.arcs, place)
    if hand is None:
        return None
    first, _ = carrier.arcs[hand]
    return (hand, (place - first) // (carrier.size // carrier.hands.marks[hand]))


def carry_mark(carrier, last, hand, thing):
    """The mark of a hand that acts with a thing when these are the last marks."""
    row = need_last(carrier.hands, last)
    need_hand(carrier.hands, hand)
    if not is_below(thing, carrier.riders[hand]):
        raise Refused(thing)
    return carrying_mark(carrier, row, hand, thing)


def carried_last(carrier, last):
    """(hand, thing) at whose place the dial stands, None for none."""
    return carried(carrier, need_last(carrier.hands, last))


def is_carrying(carrier, value):
    """Whether any value is a pair of a hand and a thing that its deeds may carry."""
    if not is_sequence(value) or len(value) != 2:
        return False
    hand, thing = value
    return is_below(hand, carrier.hands.many) and is_below(thing, carrier.riders[hand])


def check_carrying(carrier, story):
    """A story of pairs as tuples."""
    if not is_sequence(story) or len(story) > LONGEST:
        raise BadStory(-1)
    for at, pair in enumerate(story):
        if not is_carrying(carrier, pair):
            raise BadStory(at)
    return as_tuples(story)


def carry_logs(carrier, story):
    """The logs that a story of pairs (hand, thing) leaves."""
    told = check_carrying(carrier, story)
    last = [0] * carrier.hands.many
    logs = empty_logs(carrier.hands)
    for hand, thing in told:
        last[hand] = carrying_mark(carrier, last, hand, thing)
        logs[hand].append(last[hand])
    return as_tuples(logs)


def lot_carried(carrier, last):
    """(pair, the hands that it struck) for last marks, None for none."""
    pair = carried(carrier, last)
    if pair is None:
        return None
    hand, _ = pair
    return (pair, (hand,))


def carry_story(carrier, logs):
    """The story of pairs that leaves these logs."""
    rows = check_logs(carrier.hands, logs)
    story = struck_back((0,) * carrier.hands.many, rows, lambda row: lot_carried(carrier, row))
    if story is None:
        raise Refused(logs)
    return story


def most_riders(hands, riders, hand):
    """How many things deeds of a hand may carry at most, those of the others carrying what is told."""
    things = list(need_riders(hands, riders))
    things[need_hand(hands, hand)] = 0
    top, bottom = sum_of_parts(things, hands.marks)
    return max(0, (bottom - top) * hands.marks[hand] // bottom)
