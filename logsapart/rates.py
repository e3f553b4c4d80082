"""Numbers that go with the thing whatever the share: how they grow, must grow, and are swallowed."""

from logsapart.basics import as_tuples, is_below, is_number, is_sequence
from logsapart.errors import Refused
from logsapart.hands import MOST_MARKS, check_story, common_multiple, need_hand, share
from logsapart.logs import check_logs, empty_logs
from logsapart.spans import span_with, spans_of

MOST_LENGTH = 400


class Rates:
    """What the formulas of hands are made of: how many places a round has ahead and behind a deed."""

    def __init__(self, hands):
        self.hands = hands
        self.ahead = common_multiple(hands)
        self.spans = spans_of([self.ahead // marks for marks in hands.marks])
        _, self.behind = self.spans[-1]


def need_number(number):
    """The number, if any value is one."""
    if not is_number(number):
        raise Refused(number)
    return number


def need_length(length):
    """The length, if any value is a number of deeds up to the limit."""
    if not is_below(length, MOST_LENGTH + 1):
        raise Refused(length)
    return length


def number_behind(rates, number, hand):
    """The number behind a deed of a hand, all being right."""
    first, _ = rates.spans[hand]
    return number // rates.ahead * rates.behind + first + number % rates.ahead // rates.hands.marks[hand]


def hand_told(rates, number):
    """The hand whose deed leads to a number."""
    return span_with(rates.spans, number % rates.behind)


def number_ahead(rates, number, hand, mark):
    """The number ahead of a deed of the hand that a number tells, all being right."""
    first, _ = rates.spans[hand]
    within = number % rates.behind - first
    return number // rates.behind * rates.ahead + within * rates.hands.marks[hand] + mark


def grow_step(hands, number, hand):
    """(number, mark) behind a deed of a hand."""
    need_number(number)
    need_hand(hands, hand)
    return (number_behind(Rates(hands), number, hand), number % hands.marks[hand])


def grow_back(hands, number, mark):
    """(hand, number ahead of it) of the last deed, if it came to this number with this mark."""
    need_number(number)
    rates = Rates(hands)
    hand = hand_told(rates, number)
    if not is_below(mark, hands.marks[hand]):
        raise Refused(mark)
    return (hand, number_ahead(rates, number, hand, mark))


def grow_logs(hands, story, *, number=0):
    """(number, logs) behind a story that begins with a number."""
    told = check_story(hands, story)
    now = need_number(number)
    rates = Rates(hands)
    logs = empty_logs(hands)
    for hand in told:
        logs[hand].append(now % hands.marks[hand])
        now = number_behind(rates, now, hand)
    return (now, as_tuples(logs))


def grow_story(hands, logs, number):
    """(the number at first, the story) that leaves these logs and this number."""
    rows = [list(log) for log in check_logs(hands, logs)]
    now = need_number(number)
    rates = Rates(hands)
    story = []
    for _ in range(sum([len(row) for row in rows])):
        hand = hand_told(rates, now)
        if not rows[hand]:
            raise Refused(logs)
        now = number_ahead(rates, now, hand, rows[hand].pop())
        story.append(hand)
    return (now, tuple(story[::-1]))


def greatest_number(hands, length, *, number=0):
    """The greatest number to which stories of so many deeds lead from a number."""
    need_length(length)
    now = need_number(number)
    rates = Rates(hands)
    # A greater number leads to no less one, and the last hand to the greatest: so it acts alone.
    for _ in range(length):
        now = number_behind(rates, now, hands.many - 1)
    return now


def need_riders(hands, riders):
    """By hand how many things its deeds may carry, as a tuple."""
    if not is_sequence(riders) or len(riders) != hands.many:
        raise Refused(riders)
    if not all([is_below(things, MOST_MARKS + 1) and things > 0 for things in riders]):
        raise Refused(riders)
    return tuple(riders)


def needed_numbers(hands, length, *, riders=None):
    """The greatest number of stories over logs, rounded up, of all counts of so many deeds."""
    need_length(length)
    things = (1,) * hands.many if riders is None else need_riders(hands, riders)
    top = 1
    bottom = 1
    counts = [0] * hands.many
    for deeds in range(1, length + 1):
        hand = next_needing(hands, things, counts)
        counts[hand] += 1
        top = top * deeds * things[hand]
        bottom = bottom * counts[hand] * hands.marks[hand]
    return (top + bottom - 1) // bottom


def next_needing(hands, things, counts):
    """The hand whose deed more leaves stories over logs greatest.

    They are n! over the product of all j times marks over things, j from 1 to the count
    of a hand, over the hands: so the best counts of n deeds take the n least such numbers.
    """
    best = 0
    for hand in range(1, hands.many):
        cost = (counts[hand] + 1) * hands.marks[hand] * things[best]
        if cost < (counts[best] + 1) * hands.marks[best] * things[hand]:
            best = hand
    return best


def need_swallowing(hands):
    """The hands, if their share is below 1."""
    top, bottom = share(hands)
    if top >= bottom:
        raise Refused(hands)
    return hands


def resting_number(hands):
    """The greatest number that a deed of the last hand leaves as it is.

    With x = q L + r such a deed lacks q (L - W) + r - r // marks to W - w; r - r // marks
    grows by at most 1 from each r to the next one, so the greatest q leaves the greatest x.
    """
    rates = Rates(need_swallowing(hands))
    first, _ = rates.spans[-1]
    rounds = first // (rates.ahead - rates.behind)
    rest = first % (rates.ahead - rates.behind)
    # Of the one or two r with r - r // marks = rest the greater one; all marks are above 1 here.
    return rounds * rates.ahead + rest + rest // (hands.marks[-1] - 1)


def swallow_length(hands, number):
    """The fewest deeds behind which any story has led a number to the resting number or below."""
    resting = resting_number(hands)
    now = need_number(number)
    rates = Rates(hands)
    deeds = 0
    while now > resting:
        now = number_behind(rates, now, hands.many - 1)
        deeds += 1
    return deeds
