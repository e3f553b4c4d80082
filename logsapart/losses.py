"""Losses: what stories fit logs of a dial whose newest entries are gone, and what losses are noticed."""

from logsapart.basics import is_below, is_number, is_sequence, with_item
from logsapart.dials import logs_of, place_of
from logsapart.errors import Refused
from logsapart.gaps import Gaps, known_mark, rows_of, stories_fitting, stories_to, struck, whole_counts
from logsapart.hands import check_story, need_hand
from logsapart.logs import check_logs
from logsapart.spans import span_with

MOST_LOST = 12


def need_lost(hands, lost):
    """By hand how many newest entries are gone, as a tuple."""
    if not is_sequence(lost) or len(lost) != hands.many or not all([is_number(number) for number in lost]):
        raise Refused(lost)
    if sum(lost) > MOST_LOST:
        raise Refused(lost)
    return tuple(lost)


def lasts_ahead(gaps, counts, last, hand):
    """The last marks, ascending, that may have been at these counts, if but for a hand's they were these."""
    if counts[hand] <= len(gaps.left[hand]):
        return [with_item(last, hand, known_mark(gaps, hand, counts[hand]))]
    return [with_item(last, hand, mark) for mark in range(gaps.dial.hands.marks[hand])]


def newest_lasts(gaps):
    """The last marks, ascending, that all hands may have at last."""
    lasts = [(0,) * len(gaps.whole)]
    for hand in range(len(gaps.whole)):
        lasts = [marks for last in lasts for marks in lasts_ahead(gaps, gaps.whole, last, hand)]
    return lasts


def fit_number(dial, left, lost):
    """How many stories fit."""
    rows = check_logs(dial.hands, left)
    return stories_fitting(Gaps(dial, rows, need_lost(dial.hands, lost)))


def fit_story(dial, left, lost, number):
    """The story of a number of those that fit."""
    kept = check_logs(dial.hands, left)
    gaps = Gaps(dial, kept, need_lost(dial.hands, lost))
    if not is_below(number, stories_fitting(gaps)):
        raise Refused(number)
    rows = rows_of(gaps)
    counts = gaps.whole
    last, within = pick_last(gaps, rows, counts, newest_lasts(gaps), number)
    story = []
    for _ in range(sum(gaps.whole)):
        hand = span_with(dial.arcs, place_of(dial, last))
        story.append(hand)
        counts = struck(counts, hand)
        last, within = pick_last(gaps, rows, counts, lasts_ahead(gaps, counts, last, hand), within)
    return tuple(story[::-1])


def pick_last(gaps, rows, counts, lasts, number):
    """(last marks, number within): of some last marks, ascending, those of a story by number, and its number there."""
    within = number
    for last in lasts:
        stories = stories_to(gaps, rows, counts, last)
        if within < stories:
            return (last, within)
        within = within - stories
    return None


def is_fitting(left, lost, logs):
    """Whether logs are those that are left, with just as many entries more as are gone."""
    if tuple([len(log) for log in logs]) != whole_counts(left, lost):
        return False
    return all([log[:len(kept)] == kept for log, kept in zip(logs, left)])


def fit_place(dial, left, lost, story):
    """The number of a story among those that fit, None if it does not fit."""
    kept = check_logs(dial.hands, left)
    gone = need_lost(dial.hands, lost)
    told = check_story(dial.hands, story)
    logs = logs_of(dial, told)
    if not is_fitting(kept, gone, logs):
        return None
    return place_in_order(Gaps(dial, kept, gone), told, logs)


def place_in_order(gaps, story, logs):
    """The number of a story that fits and leaves these logs."""
    rows = rows_of(gaps)
    counts = gaps.whole
    lasts = newest_lasts(gaps)
    number = 0
    for hand in story[::-1]:
        last = tuple([log[count - 1] if count > 0 else 0 for log, count in zip(logs, counts)])
        number = number + sum([stories_to(gaps, rows, counts, lesser) for lesser in lasts if lesser < last])
        counts = struck(counts, hand)
        lasts = lasts_ahead(gaps, counts, last, hand)
    return number


def fit_numbers(dial, left, hand, most):
    """By 0, 1, .. most entries of one hand gone how many stories fit."""
    rows = check_logs(dial.hands, left)
    need_hand(dial.hands, hand)
    if not is_below(most, MOST_LOST + 1):
        raise Refused(most)
    lost = [with_item((0,) * dial.hands.many, hand, gone) for gone in range(most + 1)]
    return tuple([stories_fitting(Gaps(dial, rows, numbers)) for numbers in lost])


def is_read_whole(dial, logs, counts):
    """Whether a story leaves the first entries of logs, so many of each."""
    left = list(counts)
    last = [log[count - 1] if count > 0 else 0 for log, count in zip(logs, counts)]
    place = place_of(dial, last)
    for _ in range(sum(counts)):
        hand = span_with(dial.arcs, place)
        if hand is None or left[hand] == 0:
            return False
        left[hand] -= 1
        mark = logs[hand][left[hand] - 1] if left[hand] > 0 else 0
        place = (place + (mark - last[hand]) * (dial.size // dial.hands.marks[hand])) % dial.size
        last[hand] = mark
    return True


def noticed_tails(dial, logs, hand):
    """For how many newest entries of a hand gone no story leaves what is left of the logs."""
    rows = check_logs(dial.hands, logs)
    need_hand(dial.hands, hand)
    counts = tuple([len(row) for row in rows])
    noticed = []
    for gone in range(1, counts[hand] + 1):
        if not is_read_whole(dial, rows, with_item(counts, hand, counts[hand] - gone)):
            noticed.append(gone)
    return tuple(noticed)
