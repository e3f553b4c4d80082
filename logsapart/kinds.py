"""Kinds of deeds, each done by a lot of hands together; how many stories of them and logs there are."""

from logsapart.basics import as_tuples, is_below, is_sequence, product_of, rows_below, sum_of_parts
from logsapart.counts import logs_with
from logsapart.errors import BadKinds, BadText, Refused, TooGreat
from logsapart.hands import LONGEST, check_items, check_share
from logsapart.texts import known_words, need_text

MOST_LOTS = 12
MOST_LENGTHS = 20000


class Kinds:
    """Kinds of deeds, numbered from 0, each with the lot of hands that do it together."""

    def __init__(self, hands, lots):
        at = wrong_lot(hands, lots)
        if at is not None:
            raise BadKinds(at)
        self.hands = hands
        self.lots = as_tuples(lots)
        self.sizes = lot_sizes(hands.marks, self.lots)

    def __eq__(self, other):
        return isinstance(other, Kinds) and self.hands == other.hands and self.lots == other.lots


def lot_sizes(marks, lots):
    """By lot the product of the numbers of marks of its hands."""
    return tuple([product_of([marks[hand] for hand in lot]) for lot in lots])


def is_lot(hands, value):
    """Whether any value is an ascending sequence of at least one hand."""
    if not is_sequence(value) or len(value) == 0:
        return False
    if not all([is_below(hand, hands.many) for hand in value]):
        return False
    return all([value[at] < value[at + 1] for at in range(len(value) - 1)])


def wrong_lot(hands, value):
    """None if any value is what Kinds takes beside its hands, else what BadKinds tells of it."""
    if not is_sequence(value) or len(value) == 0 or len(value) > MOST_LOTS:
        return -1
    for at, lot in enumerate(value):
        if not is_lot(hands, lot):
            return at
    return None


def need_kind(kinds, kind):
    """The kind, if any value is one."""
    if not is_below(kind, len(kinds.lots)):
        raise Refused(kind)
    return kind


def share_of_sizes(sizes):
    """The sum of 1 over each size: (top, bottom) in least terms."""
    return sum_of_parts([1] * len(sizes), sizes)


def kinds_share(kinds):
    """The sum of 1 over the sizes of the kinds: (top, bottom) in least terms."""
    return share_of_sizes(kinds.sizes)


def is_served(kinds):
    """Whether the share of the kinds is at most 1."""
    top, bottom = kinds_share(kinds)
    return top <= bottom


def need_served(kinds):
    """The kinds, if their share is at most 1."""
    top, bottom = kinds_share(kinds)
    check_share(top, bottom)
    return kinds


def alike_marks(kinds):
    """The least number of marks, alike for all hands, with which the share of these lots is at most 1."""
    marks = 1
    top, bottom = share_of_sizes(lot_sizes([marks] * kinds.hands.many, kinds.lots))
    while top > bottom:
        marks += 1
        top, bottom = share_of_sizes(lot_sizes([marks] * kinds.hands.many, kinds.lots))
    return marks


def check_meetings(kinds, value):
    """Any value as a tuple, if it is a story of these kinds."""
    return check_items(value, len(kinds.lots))


def kinds_counts(kinds, story):
    """By hand how many entries a story of kinds puts into its log."""
    counts = [0] * kinds.hands.many
    for kind in check_meetings(kinds, story):
        for hand in kinds.lots[kind]:
            counts[hand] += 1
    return tuple(counts)


def kinds_text(kinds):
    """The line of some kinds."""
    lots = [",".join([str(hand) for hand in lot]) for lot in kinds.lots]
    return " ".join(["kinds", *lots])


def read_kinds(hands, text):
    """The kinds of a line."""
    words = need_text(text).split(" ")
    known = known_words(hands.many)
    # A word that names no hand stands for -1, which is none either.
    lots = [[known.get(name, -1) for name in word.split(",")] for word in words[1:]]
    if words[0] != "kinds" or wrong_lot(hands, lots) is not None:
        raise BadText(1)
    return Kinds(hands, lots)


def need_lengths(kinds, lengths):
    """Lengths of logs as a tuple, if there are not too many below them."""
    if not is_sequence(lengths) or len(lengths) != kinds.hands.many:
        raise Refused(lengths)
    if not all([is_below(length, LONGEST + 1) for length in lengths]):
        raise Refused(lengths)
    if product_of([length + 1 for length in lengths]) > MOST_LENGTHS:
        raise TooGreat(MOST_LENGTHS)
    return tuple(lengths)


def lengths_ahead(lengths, lot):
    """The lengths ahead of a deed of a lot; some of them may come out below 0."""
    ahead = list(lengths)
    for hand in lot:
        ahead[hand] -= 1
    return tuple(ahead)


def stories_to(kinds, lengths, ways):
    """How many stories leave these lengths, the ways to all that are ahead of them being known."""
    if sum(lengths) == 0:
        return 1
    # No way leads to lengths below 0, so these are not known.
    return sum([ways.get(lengths_ahead(lengths, lot), 0) for lot in kinds.lots])


def stories_leaving(kinds, lengths):
    """How many stories of kinds leave logs of these lengths."""
    row = need_lengths(kinds, lengths)
    ways = {}
    for ahead in rows_below([length + 1 for length in row]):
        ways[ahead] = stories_to(kinds, ahead, ways)
    return ways[row]


def logs_many(kinds, lengths):
    """How many logs of these lengths there are."""
    return logs_with(kinds.hands, need_lengths(kinds, lengths))


def rows_adding_up(many, total):
    """All rows of so many numbers that add up to a total, ascending."""
    begun = [((), total)]
    for _ in range(many - 1):
        begun = [((*row, number), left - number) for row, left in begun for number in range(left + 1)]
    return [(*row, left) for row, left in begun]


def full_lengths(kinds, *, most):
    """The first lengths for which more stories leave logs than there are logs, None if there are none."""
    if is_served(kinds):
        return None
    ways = {}
    total = 0
    while True:
        rows = rows_adding_up(kinds.hands.many, total)
        if len(ways) + len(rows) > most:
            raise TooGreat(most)
        for row in rows:
            ways[row] = stories_to(kinds, row, ways)
            if ways[row] > logs_with(kinds.hands, row):
                return row
        total += 1
