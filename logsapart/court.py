"""What marks cannot tell: papers about hands, and books of marks with the stories they mix up."""

from logsapart.basics import as_tuples, fits_bounds, is_below, is_number, is_sequence
from logsapart.counts import are_counts, crowded_counts, logs_with, next_crowded, stories_with
from logsapart.errors import Refused, TooGreat
from logsapart.hands import check_story, is_telling, share
from logsapart.logs import empty_logs

MOST_PAPER_DEEDS = 3000
MOST_BOUND_DEEDS = 60
MOST_BOOK_STORIES = 5000


def failing_counts(hands, most):
    """Counts of the fewest deeds with more stories than logs; None if these are more than most."""
    counts = [0] * hands.many
    top = 1
    bottom = 1
    for deeds in range(1, most + 1):
        hand = next_crowded(hands, counts)
        counts[hand] += 1
        top = top * deeds
        bottom = bottom * counts[hand] * hands.marks[hand]
        if top > bottom:
            return tuple(counts)
    return None


def least_failing(hands, *, most=400):
    """The least number of deeds of counts with more stories than logs; None if there are none."""
    word, told = court_paper(hands, most=most)
    if word == "tells":
        return None
    return sum(told)


def court_paper(hands, *, most=400):
    """("tells", share), or ("more", counts) of the fewest deeds with more stories than logs."""
    if is_telling(hands):
        return ("tells", share(hands))
    counts = failing_counts(hands, most)
    if counts is None:
        raise TooGreat(most)
    return ("more", counts)


def court_holds(hands, value):
    """Whether any value is a paper that is right for these hands."""
    if not is_sequence(value) or len(value) != 2:
        return False
    word, told = value
    if word == "tells":
        return is_telling(hands) and is_share(hands, told)
    if word == "more":
        return are_counts(hands, told, MOST_PAPER_DEEDS) and stories_with(told) > logs_with(hands, told)
    return False


def is_share(hands, value):
    """Whether any value is the share of these hands."""
    if not is_sequence(value) or not all([is_number(item) for item in value]):
        return False
    return tuple(value) == share(hands)


def crowd_bound(hands, length):
    """The greatest stories over logs of so many deeds, rounded up."""
    if not is_below(length, MOST_BOUND_DEEDS + 1):
        raise Refused(length)
    counts = crowded_counts(hands, length)
    logs = logs_with(hands, counts)
    return (stories_with(counts) + logs - 1) // logs


def is_book(hands, value):
    """Whether any value is a book of these hands."""
    if not is_sequence(value) or len(value) == 0:
        return False
    begun = 1
    for row in value:
        if begun * hands.many > MOST_BOOK_STORIES:
            return False
        # Each story of the length ahead goes on by hand 0, 1, ..: so the bounds repeat.
        if not fits_bounds(row, hands.marks * begun):
            return False
        begun = begun * hands.many
    return True


def need_book(hands, book):
    """A book as tuples."""
    if not is_book(hands, book):
        raise Refused(book)
    return as_tuples(book)


def laid_by_book(hands, rows, story):
    """The logs that a story within the book of these rows leaves."""
    logs = empty_logs(hands)
    place = 0
    for row, hand in zip(rows, story):
        place = place * hands.many + hand
        logs[hand].append(row[place])
    return as_tuples(logs)


def need_story_within(hands, rows, story):
    """A story as a tuple, no longer than the book of these rows."""
    told = check_story(hands, story)
    if len(told) > len(rows):
        raise Refused(story)
    return told


def book_logs(hands, book, story):
    """The logs that a story leaves by a book."""
    rows = need_book(hands, book)
    return laid_by_book(hands, rows, need_story_within(hands, rows, story))


def stories_of(hands, length):
    """All stories of a length, ascending."""
    stories = [()]
    for _ in range(length):
        stories = [(*story, hand) for story in stories for hand in range(hands.many)]
    return stories


def crowds_of(hands, rows, length):
    """By logs the stories of a length that leave them, ascending, as are the first ones."""
    crowds = {}
    for story in stories_of(hands, length):
        logs = laid_by_book(hands, rows, story)
        if logs not in crowds:
            crowds[logs] = []
        crowds[logs].append(story)
    return crowds


def alike_stories(hands, book, story):
    """The stories, ascending, that leave the same logs as a story."""
    rows = need_book(hands, book)
    told = need_story_within(hands, rows, story)
    logs = laid_by_book(hands, rows, told)
    begun = [((), 0)]
    for row in rows[:len(told)]:
        begun = [
            ((*ahead, hand), place * hands.many + hand)
            for ahead, place in begun
            for hand in range(hands.many)
            if goes_on(logs[hand], ahead.count(hand), row[place * hands.many + hand])
        ]
    return tuple([alike for alike, place in begun])


def goes_on(log, written, mark):
    """Whether a log has a mark as its next entry behind those that are written."""
    return written < len(log) and log[written] == mark


def twin_stories(hands, book):
    """The least of the shortest stories with a twin, and the least twin; None if there are none."""
    rows = need_book(hands, book)
    for length in range(1, len(rows) + 1):
        crowds = crowds_of(hands, rows, length)
        for crowd in crowds.values():
            if len(crowd) > 1:
                return (crowd[0], crowd[1])
    return None


def crowd_number(hands, book, length):
    """How many stories of a length leave the same logs at most."""
    rows = need_book(hands, book)
    if not is_below(length, len(rows) + 1):
        raise Refused(length)
    crowds = crowds_of(hands, rows, length)
    return max([len(crowd) for crowd in crowds.values()])
