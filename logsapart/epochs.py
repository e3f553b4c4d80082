"""Guests that come and go: epochs with a ring each, and where the epochs of a story begin."""

from logsapart.basics import is_number, is_sequence, with_item
from logsapart.dials import mark_over
from logsapart.errors import BadHands, Refused
from logsapart.hands import check_items, common_multiple, need_hand, wrong_marks
from logsapart.spans import span_with, spans_of

MOST_GUESTS = 40


class Crowd:
    """Guests, numbered from 0, each with a number of marks of its own."""

    def __init__(self, marks):
        at = wrong_marks(marks, 1, MOST_GUESTS)
        if at is not None:
            raise BadHands(at)
        self.marks = tuple(marks)
        self.many = len(self.marks)
        self.size = common_multiple(self)

    def __eq__(self, other):
        return isinstance(other, Crowd) and self.marks == other.marks


def need_guest(crowd, guest):
    """The guest, if any value is one."""
    return need_hand(crowd, guest)


def check_guests(crowd, story):
    """Any value as a tuple, if it is a story of these guests."""
    return check_items(story, crowd.many)


def need_epoch(epoch):
    """The number of an epoch, if any value is one."""
    if not is_number(epoch):
        raise Refused(epoch)
    return epoch


def widths_of(crowd, guests):
    """By guest how many places of the ring its arc has."""
    return [crowd.size // crowd.marks[guest] for guest in guests]


def ring_place(crowd, there, last):
    """The place of the ring when the guests that are there have these last marks."""
    return sum([mark * width for mark, width in zip(last, widths_of(crowd, there))]) % crowd.size


def rank_told(crowd, there, last):
    """The rank of the guest in whose arc the ring stands, None if it stands in none."""
    return span_with(spans_of(widths_of(crowd, there)), ring_place(crowd, there, last))


def ring_mark(crowd, there, last, rank):
    """The one mark of the guest of a rank that brings the ring into its arc."""
    widths = widths_of(crowd, there)
    without = ring_place(crowd, there, last) - last[rank] * widths[rank]
    return mark_over(crowd.size, crowd.marks[there[rank]], without, sum(widths[:rank]))


class Roll:
    """The thing itself: the guests that have acted in the present epoch, as they came, and their last marks."""

    def __init__(self, crowd, epoch=0):
        self.epoch = need_epoch(epoch)
        self.crowd = crowd
        self.there = ()
        self.last = ()

    def act(self, guest):
        """Hears a deed; returns (epoch, rank, mark)."""
        need_guest(self.crowd, guest)
        if guest not in self.there:
            if sum(widths_of(self.crowd, (*self.there, guest))) > self.crowd.size:
                self.epoch += 1
                self.there = ()
                self.last = ()
            self.there = (*self.there, guest)
            self.last = (*self.last, 0)
        rank = self.there.index(guest)
        mark = ring_mark(self.crowd, self.there, self.last, rank)
        self.last = with_item(self.last, rank, mark)
        return (self.epoch, rank, mark)

    def who(self):
        """The guest that acted last, None if nobody has acted in this epoch yet."""
        if not self.there:
            return None
        return self.there[rank_told(self.crowd, self.there, self.last)]


def fewest_epochs(crowd, story):
    """Where the epochs of a story begin, ascending."""
    roll = Roll(crowd)
    begins = []
    for at, guest in enumerate(check_guests(crowd, story)):
        roll.act(guest)
        if roll.epoch == len(begins):
            begins.append(at)
    return tuple(begins)


def full_runs(crowd, story):
    """Runs (first, behind), each from the begin of an epoch to the first deed of the next one."""
    begins = fewest_epochs(crowd, story)
    return tuple([(first, after + 1) for first, after in zip(begins, begins[1:])])


def is_full(crowd, deeds):
    """Whether the guests of some deeds have a share above 1."""
    guests = {guest: True for guest in deeds}
    return sum(widths_of(crowd, guests)) > crowd.size


def is_run(value):
    """Whether any value is a pair of numbers."""
    return is_sequence(value) and len(value) == 2 and all([is_number(item) for item in value])


def runs_hold(crowd, story, value):
    """Whether any value are runs of a story that are too full, each beginning at the last deed ahead or later."""
    told = check_guests(crowd, story)
    if not is_sequence(value):
        return False
    free = 0
    for run in value:
        if not is_run(run):
            return False
        first, behind = run
        if first < free or behind > len(told) or not is_full(crowd, told[first:behind]):
            return False
        free = behind - 1
    return True
