"""Logs: of each hand the marks of its own deeds, oldest first."""

from logsapart.basics import as_tuples, fits_bounds, is_sequence, with_item
from logsapart.errors import BadLogs, Refused
from logsapart.hands import LONGEST, check_story, need_hand


def is_log(value, marks):
    """Whether any value is a log of a hand with so many marks."""
    if not is_sequence(value) or len(value) > LONGEST:
        return False
    return fits_bounds(value, [marks] * len(value))


def check_logs(hands, value):
    """Any value as a tuple of tuples, if it is a log for each of these hands."""
    if not is_sequence(value) or len(value) != hands.many:
        raise BadLogs(-1)
    for hand, log in enumerate(value):
        if not is_log(log, hands.marks[hand]):
            raise BadLogs(hand)
    return as_tuples(value)


def empty_logs(hands):
    """A new empty list for each hand, to be filled with its marks."""
    return [[] for hand in range(hands.many)]


def last_marks(hands, logs):
    """By hand the last mark of its log, 0 for an empty one."""
    return tuple([log[-1] if log else 0 for log in check_logs(hands, logs)])


def is_last(hands, value):
    """Whether any value is a row of last marks, one mark of each hand."""
    return fits_bounds(value, hands.marks)


def need_last(hands, last):
    """Any value as a tuple, if it is a row of last marks."""
    if not is_last(hands, last):
        raise Refused(last)
    return tuple(last)


def story_counts(hands, story):
    """By hand how often it acts in a story."""
    counts = [0] * hands.many
    for hand in check_story(hands, story):
        counts[hand] += 1
    return tuple(counts)


def laid_logs(hands, story, marks):
    """The logs that a story leaves whose deeds bear these marks, in its order."""
    told = check_story(hands, story)
    if not fits_bounds(marks, [hands.marks[hand] for hand in told]):
        raise Refused(marks)
    logs = empty_logs(hands)
    for hand, mark in zip(told, marks):
        logs[hand].append(mark)
    return as_tuples(logs)


def marks_along(hands, story, logs):
    """The marks of these logs in the order of a story that may have left them."""
    told = check_story(hands, story)
    rows = check_logs(hands, logs)
    if story_counts(hands, told) != tuple([len(row) for row in rows]):
        raise Refused(logs)
    read = [0] * hands.many
    marks = []
    for hand in told:
        marks.append(rows[hand][read[hand]])
        read[hand] += 1
    return tuple(marks)


def struck_logs(hands, logs, hand):
    """The logs without the last entry of a hand."""
    rows = check_logs(hands, logs)
    need_hand(hands, hand)
    if not rows[hand]:
        raise Refused(hand)
    return with_item(rows, hand, rows[hand][:-1])
