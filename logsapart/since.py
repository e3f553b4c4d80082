"""Entries that name who acted since the hand's last one; what they tell though newest ones are lost."""

from logsapart.basics import as_tuples, is_below, is_sequence, product_of
from logsapart.errors import Refused
from logsapart.hands import check_story, need_hand
from logsapart.logs import check_logs, empty_logs


def others_of(hands, hand):
    """The other hands, ascending."""
    return [other for other in range(hands.many) if other != hand]


def marks_needed(hands):
    """How many sets of other hands there are."""
    return product_of([2] * (hands.many - 1))


def need_marks(hands):
    """The hands, if each has a mark for each set of other hands."""
    if min(hands.marks) < marks_needed(hands):
        raise Refused(hands)
    return hands


def set_mark(hands, hand, members):
    """The mark of a hand that stands for a set of other hands."""
    mark = 0
    for other in others_of(hands, hand)[::-1]:
        mark = mark * 2 + (1 if other in members else 0)
    return mark


def marked_set(hands, hand, mark):
    """The other hands, ascending, of the set for which a mark of a hand stands."""
    members = []
    left = mark
    for other in others_of(hands, hand):
        if left % 2 == 1:
            members.append(other)
        left = left // 2
    return tuple(members)


class Witness:
    """Hears deeds and keeps by hand the others that acted since its last entry."""

    def __init__(self, hands):
        self.hands = need_marks(hands)
        self.since = ((),) * hands.many

    def act(self, hand):
        """Hears a deed of a hand; returns its mark."""
        need_hand(self.hands, hand)
        mark = set_mark(self.hands, hand, self.since[hand])
        self.since = since_behind(self.since, hand)
        return mark


def since_behind(since, hand):
    """By hand the others that acted since its last entry, ascending, behind a deed more."""
    behind = [others if hand in others else tuple(sorted([*others, hand])) for others in since]
    behind[hand] = ()
    return tuple(behind)


def since_logs(hands, story):
    """The logs that a story leaves so."""
    witness = Witness(hands)
    logs = empty_logs(hands)
    for hand in check_story(hands, story):
        logs[hand].append(witness.act(hand))
    return as_tuples(logs)


class Rest:
    """Logs as sets: by hand, by entry the others that acted since the entry ahead; and the order of all entries."""

    def __init__(self, hands, logs):
        self.hands = hands
        self.sets = [[marked_set(hands, hand, mark) for mark in log] for hand, log in enumerate(logs)]
        self.order = []
        since = ((),) * hands.many
        read = [0] * hands.many
        for _ in range(sum([len(log) for log in logs])):
            hand = next_told(self.sets, since, read)
            if hand is None:
                break
            self.order.append(hand)
            read[hand] += 1
            since = since_behind(since, hand)


def next_told(sets, since, read):
    """The hand whose next entry is ahead of those of all others, None if there is none."""
    waiting = [hand for hand, row in enumerate(sets) if read[hand] < len(row)]
    named = {hand: sets[hand][read[hand]] for hand in waiting}
    for hand in waiting:
        if all([comes_ahead(named, since, hand, other) for other in waiting if other != hand]):
            return hand
    return None


def comes_ahead(named, since, one, other):
    """Whether of two hands' next entries the first one's is ahead.

    If one has acted since the other's last entry, the next entry of the other names it or not:
    only the first of the two to act next leaves it so. If neither has acted, the first is named.
    """
    if other in since[one]:
        return one in named[other]
    return other not in named[one]


def own_places(order, hand):
    """The places of a hand's entries in the order."""
    return [at for at, who in enumerate(order) if who == hand]


def spans_named(rest, other):
    """By entry of all hands but one: (place behind the entry ahead, its own place, whether it names the one)."""
    told = []
    for hand in others_of(rest.hands, other):
        begin = 0
        for at, members in zip(own_places(rest.order, hand), rest.sets[hand]):
            told.append((begin, at, other in members))
            begin = at + 1
    return told


def free_places(rest, other):
    """The places, ascending, at which lost deeds of a hand may have been done: each ahead of the entry there.

    They come behind its entries that are left, and where no other hand's next entry denies them.
    """
    places = own_places(rest.order, other)
    begin = places[-1] + 1 if places else 0
    denied = [(first, last) for first, last, names in spans_named(rest, other) if not names]
    return [
        at for at in range(begin, len(rest.order) + 1)
        if not any([first <= at <= last for first, last in denied])
    ]


def is_borne_out(rest, other):
    """Whether what all entries say of one other hand can be so: by entries that are left, or by lost ones."""
    left = own_places(rest.order, other)
    free = free_places(rest, other)
    for first, last, names in spans_named(rest, other):
        acted = any([first <= at < last for at in left])
        if acted and not names:
            return False
        if names and not acted and not any([first <= at <= last for at in free]):
            return False
    return True


def is_whole(rest):
    """Whether the logs are a rest: all entries have a place in the order, and bear each other out."""
    if len(rest.order) != sum([len(row) for row in rest.sets]):
        return False
    return all([is_borne_out(rest, hand) for hand in range(rest.hands.many)])


def told_rest(hands, logs):
    """The rest of logs that are right, None if they are none."""
    needed = marks_needed(hands)
    if not all([mark < needed for log in logs for mark in log]):
        return None
    rest = Rest(hands, logs)
    if not is_whole(rest):
        return None
    return rest


def need_rest(hands, logs):
    """The rest of logs, if they are one."""
    need_marks(hands)
    rest = told_rest(hands, check_logs(hands, logs))
    if rest is None:
        raise Refused(logs)
    return rest


def is_rest(hands, logs):
    """Whether the logs are a rest: what is left of those of some story when newest entries are lost."""
    need_marks(hands)
    return told_rest(hands, check_logs(hands, logs)) is not None


def rest_order(hands, logs):
    """The hands of all entries of a rest, in the order of their deeds."""
    return tuple(need_rest(hands, logs).order)


def sure_length(hands, logs):
    """How many entries of a rest are surely the first deeds: no lost one can have been done among them."""
    rest = need_rest(hands, logs)
    # Behind all entries each hand may have acted once more.
    return min([free_places(rest, hand)[0] for hand in range(hands.many)])


def need_entry(rest, value):
    """Any value as (hand, index in its log), if it is such a sequence."""
    if not is_sequence(value) or len(value) != 2:
        raise Refused(value)
    hand, at = value
    if not is_below(hand, rest.hands.many) or not is_below(at, len(rest.sets[hand])):
        raise Refused(value)
    return own_places(rest.order, hand)[at]


def is_ahead(hands, logs, one, other):
    """Whether the deed of one entry of a rest was ahead of that of another one."""
    rest = need_rest(hands, logs)
    first = need_entry(rest, one)
    return first < need_entry(rest, other)
