"""Losses: what stories fit logs of a dial whose newest entries are gone, and what losses are noticed."""

from logsapart.basics import is_below, is_number, is_sequence, with_item
from logsapart.dials import logs_of, place_of
from logsapart.errors import Refused
from logsapart.hands import check_story, need_hand
from logsapart.logs import check_logs
from logsapart.spans import span_with

MOST_LOST = 12


def need_lost(hands, lost):
    """By hand how many newest entries are gone, as a tuple."""
    if not is_sequence(lost) or len(lost) != hands.many or not all([is_number(number) for number in lost]):
        raise Refused(lost)
    if sum(lost) > MOST_LOST:
        raise Refused(lost)
    return tuple(lost)


class Gaps:
    """Logs of a dial of which newest entries are gone, and by counts, by place how many stories lead there.

    Counts are by hand how many entries are written.
    """

    def __init__(self, dial, left, lost):
        self.dial = dial
        self.left = left
        self.whole = tuple([len(log) + number for log, number in zip(left, lost)])
        self.ways = ways_of(self)


def known_mark(gaps, hand, count):
    """The mark of a hand's last entry that is left, of so many, 0 for none."""
    if count == 0:
        return 0
    return gaps.left[hand][count - 1]


def place_with(gaps, place, counts, hand):
    """The place behind a deed more of a hand, as a list; an empty one if that is not the next entry left."""
    width = gaps.dial.size // gaps.dial.hands.marks[hand]
    first, _ = gaps.dial.arcs[hand]
    # Whatever the hand's mark was, this is the only place of its arc to which its marks turn the dial.
    behind = first + (place - first) % width
    count = counts[hand]
    if count < len(gaps.left[hand]):
        turn = (gaps.left[hand][count] - known_mark(gaps, hand, count)) * width
        if (place + turn - behind) % gaps.dial.size != 0:
            return []
    return [behind]


def with_deed(counts, hand):
    """The counts behind a deed more of a hand."""
    return with_item(counts, hand, counts[hand] + 1)


def places_behind(gaps, counts, place):
    """(counts, place, hand) behind each deed more that may be done."""
    behind = []
    for hand, whole in enumerate(gaps.whole):
        if counts[hand] < whole:
            more = with_deed(counts, hand)
            behind.extend([(more, after, hand) for after in place_with(gaps, place, counts, hand)])
    return behind


def ways_of(gaps):
    """By counts, those of fewer deeds first, by place how many stories lead there."""
    layer = {(0,) * len(gaps.whole): {0: 1}}
    ways = {}
    for _ in range(sum(gaps.whole) + 1):
        longer = {}
        for counts, places in layer.items():
            ways[counts] = places
            for place, stories in places.items():
                for more, after, _ in places_behind(gaps, counts, place):
                    told = longer.setdefault(more, {})
                    told[after] = told.get(after, 0) + stories
        layer = longer
    return ways


def stories_behind(gaps, counts):
    """How many stories lead to some counts."""
    return sum(list(gaps.ways.get(counts, {}).values()))


def steps_to_all(gaps):
    """By counts, by place those of places_behind from which some stories go on to the end."""
    steps = {gaps.whole: {place: [] for place in gaps.ways.get(gaps.whole, {})}}
    for counts in list(gaps.ways)[::-1]:
        if counts != gaps.whole:
            told = {}
            for place in gaps.ways[counts]:
                on = [step for step in places_behind(gaps, counts, place) if step[1] in steps.get(step[0], {})]
                if on:
                    told[place] = on
            steps[counts] = told
    return steps


def rows_of(gaps):
    """By counts, by place, by last marks how many stories lead there, if some of them go on to the end.

    The places alone are fewer by far: so they are gone through first, and tell what need not be looked at.
    """
    start = (0,) * len(gaps.whole)
    rows = {start: {0: {start: 1}}}
    steps = steps_to_all(gaps)
    for counts in gaps.ways:
        here = rows.get(counts, {})
        for place, lasts in here.items():
            for more, after, hand in steps[counts].get(place, []):
                there = rows.setdefault(more, {}).setdefault(after, {})
                marks = gaps.dial.hands.marks[hand]
                turn = (after - place) // (gaps.dial.size // marks)
                for last, stories in lasts.items():
                    now = with_item(last, hand, (last[hand] + turn) % marks)
                    there[now] = there.get(now, 0) + stories
    return rows


def stories_to(gaps, rows, counts, last):
    """How many stories lead to these counts and last marks."""
    return rows.get(counts, {}).get(place_of(gaps.dial, last), {}).get(last, 0)


def struck(counts, hand):
    """The counts ahead of a hand's last entry."""
    return with_item(counts, hand, counts[hand] - 1)


def lasts_ahead(gaps, counts, last, hand):
    """The last marks, ascending, that may have been at these counts, if but for a hand's they were these."""
    if counts[hand] <= len(gaps.left[hand]):
        return [with_item(last, hand, known_mark(gaps, hand, counts[hand]))]
    return [with_item(last, hand, mark) for mark in range(gaps.dial.hands.marks[hand])]


def newest_lasts(gaps):
    """The last marks, ascending, that all hands may have at last."""
    lasts = [(0,) * len(gaps.whole)]
    for hand in range(len(gaps.whole)):
        lasts = [marks for last in lasts for marks in lasts_ahead(gaps, gaps.whole, last, hand)]
    return lasts


def gaps_of(dial, left, lost):
    """The gaps of logs that are left, if so many entries are gone."""
    rows = check_logs(dial.hands, left)
    return Gaps(dial, rows, need_lost(dial.hands, lost))


def fit_number(dial, left, lost):
    """How many stories fit."""
    gaps = gaps_of(dial, left, lost)
    return stories_behind(gaps, gaps.whole)


def fit_story(dial, left, lost, number):
    """The story of a number of those that fit."""
    gaps = gaps_of(dial, left, lost)
    if not is_below(number, stories_behind(gaps, gaps.whole)):
        raise Refused(number)
    rows = rows_of(gaps)
    counts = gaps.whole
    last, within = pick_last(gaps, rows, counts, newest_lasts(gaps), number)
    story = []
    for _ in range(sum(gaps.whole)):
        hand = span_with(dial.arcs, place_of(dial, last))
        story.append(hand)
        counts = struck(counts, hand)
        last, within = pick_last(gaps, rows, counts, lasts_ahead(gaps, counts, last, hand), within)
    return tuple(story[::-1])


def pick_last(gaps, rows, counts, lasts, number):
    """(last marks, number within): of some last marks, ascending, those of a story by number, and its number there."""
    within = number
    for last in lasts:
        stories = stories_to(gaps, rows, counts, last)
        if within < stories:
            return (last, within)
        within = within - stories
    return None


def is_fitting(gaps, logs):
    """Whether logs are those that are left, with just as many entries more as are gone."""
    if tuple([len(log) for log in logs]) != gaps.whole:
        return False
    return all([log[:len(kept)] == kept for log, kept in zip(logs, gaps.left)])


def fit_place(dial, left, lost, story):
    """The number of a story among those that fit, None if it does not fit."""
    gaps = gaps_of(dial, left, lost)
    told = check_story(dial.hands, story)
    logs = logs_of(dial, told)
    if not is_fitting(gaps, logs):
        return None
    rows = rows_of(gaps)
    counts = gaps.whole
    lasts = newest_lasts(gaps)
    number = 0
    for hand in told[::-1]:
        last = tuple([log[count - 1] if count > 0 else 0 for log, count in zip(logs, counts)])
        number = number + sum([stories_to(gaps, rows, counts, lesser) for lesser in lasts if lesser < last])
        counts = struck(counts, hand)
        lasts = lasts_ahead(gaps, counts, last, hand)
    return number


def fit_numbers(dial, left, hand, most):
    """By 0, 1, .. most entries of one hand gone how many stories fit."""
    rows = check_logs(dial.hands, left)
    need_hand(dial.hands, hand)
    if not is_below(most, MOST_LOST + 1):
        raise Refused(most)
    gaps = Gaps(dial, rows, with_item((0,) * dial.hands.many, hand, most))
    kept = len(rows[hand])
    return tuple([stories_behind(gaps, with_item(gaps.whole, hand, kept + gone)) for gone in range(most + 1)])


def is_read_whole(dial, logs, counts):
    """Whether a story leaves the first entries of logs, so many of each."""
    left = list(counts)
    last = [log[count - 1] if count > 0 else 0 for log, count in zip(logs, counts)]
    place = place_of(dial, last)
    for _ in range(sum(counts)):
        hand = span_with(dial.arcs, place)
        if hand is None or left[hand] == 0:
            return False
        left[hand] -= 1
        mark = logs[hand][left[hand] - 1] if left[hand] > 0 else 0
        place = (place + (mark - last[hand]) * (dial.size // dial.hands.marks[hand])) % dial.size
        last[hand] = mark
    return True


def noticed_tails(dial, logs, hand):
    """For how many newest entries of a hand gone no story leaves what is left of the logs."""
    rows = check_logs(dial.hands, logs)
    need_hand(dial.hands, hand)
    counts = tuple([len(row) for row in rows])
    noticed = []
    for gone in range(1, counts[hand] + 1):
        if not is_read_whole(dial, rows, with_item(counts, hand, counts[hand] - gone)):
            noticed.append(gone)
    return tuple(noticed)
