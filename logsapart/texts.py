"""Hands, stories and logs as texts, and how these are read back."""

from logsapart.errors import BadText
from logsapart.hands import LONGEST, MOST_MARKS, Hands, check_story, wrong_marks
from logsapart.logs import check_logs

NONE = "-"


def row_text(numbers):
    """Numbers with one blank between."""
    if not numbers:
        return NONE
    return " ".join([str(number) for number in numbers])


def hands_text(hands):
    """The line of some hands."""
    return "hands " + row_text(hands.marks)


def story_text(hands, story):
    """The line of a story."""
    return row_text(check_story(hands, story))


def logs_text(hands, logs):
    """A line for each log."""
    return "\n".join([row_text(log) for log in check_logs(hands, logs)])


def need_text(value):
    """Any value, if it is a string."""
    if not isinstance(value, str):
        raise BadText(0)
    return value


def known_words(bound):
    """The numbers below a bound by the only word that each of them has."""
    return {str(number): number for number in range(bound)}


def row_words(line):
    """The words of a line of numbers."""
    if line == NONE:
        return []
    return line.split(" ")


def wrong_word(words, known):
    """The index of the first word that is not known, or is one too many; None if all are right."""
    for at, word in enumerate(words):
        if at == LONGEST or word not in known:
            return at
    return None


def read_hands(text):
    """The hands of a line."""
    words = need_text(text).split(" ")
    known = known_words(MOST_MARKS + 1)
    if words[0] != "hands" or wrong_word(words[1:], known) is not None:
        raise BadText(1)
    marks = [known[word] for word in words[1:]]
    if wrong_marks(marks) is not None:
        raise BadText(1)
    return Hands(marks)


def read_story(hands, text):
    """The story of a line."""
    words = row_words(need_text(text))
    known = known_words(hands.many)
    at = wrong_word(words, known)
    if at is not None:
        raise BadText(at)
    return tuple([known[word] for word in words])


def read_logs(hands, text):
    """The logs of a text with a line for each hand."""
    lines = need_text(text).split("\n")
    logs = []
    for hand, marks in enumerate(hands.marks):
        log = read_log(lines[hand], marks) if hand < len(lines) else None
        if log is None:
            raise BadText(hand + 1)
        logs.append(log)
    if len(lines) > hands.many:
        raise BadText(hands.many + 1)
    return tuple(logs)


def read_log(line, marks):
    """The log of a hand with so many marks, None if the line tells none."""
    words = row_words(line)
    known = known_words(marks)
    if wrong_word(words, known) is not None:
        return None
    return tuple([known[word] for word in words])
