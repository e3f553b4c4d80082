"""Journals: logs of guests in pages, one for each epoch, and the stories that they tell."""

from logsapart.basics import is_number, is_sequence
from logsapart.epochs import Roll, need_epoch, rank_told
from logsapart.errors import BadLogs, Refused
from logsapart.hands import LONGEST
from logsapart.logs import is_log
from logsapart.reading import struck_back


def is_page(value, marks):
    """Whether any value is a page (epoch, rank, marks) of a guest with so many marks."""
    if not is_sequence(value) or len(value) != 3:
        return False
    epoch, rank, entries = value
    return is_number(epoch) and is_number(rank) and is_log(entries, marks) and len(entries) > 0


def is_paged_log(value, marks):
    """Whether any value is a log of pages, their epochs ascending, of a guest with so many marks."""
    if not is_sequence(value) or len(value) > LONGEST:
        return False
    if not all([is_page(page, marks) for page in value]):
        return False
    return all([value[at][0] < value[at + 1][0] for at in range(len(value) - 1)])


def paged(log):
    """A log of pages as tuples, within, too."""
    return tuple([(epoch, rank, tuple(entries)) for epoch, rank, entries in log])


def check_pages(crowd, logs):
    """Any value as tuples, if it is a log of pages for each of these guests."""
    if not is_sequence(logs) or len(logs) != crowd.many:
        raise BadLogs(-1)
    for guest, log in enumerate(logs):
        if not is_paged_log(log, crowd.marks[guest]):
            raise BadLogs(guest)
    return tuple([paged(log) for log in logs])


def with_entry(log, epoch, rank, mark):
    """A log with an entry more, in its last page if that is of this epoch, else in a new one."""
    pages = paged(log)
    if not pages or pages[-1][0] != epoch:
        return (*pages, (epoch, rank, (mark,)))
    _, first_rank, entries = pages[-1]
    return (*pages[:-1], (epoch, first_rank, (*entries, mark)))


def guest_told(crowd, there, last):
    """(guest, whose page it is) as struck_back takes it, None for nobody."""
    rank = rank_told(crowd, there, last)
    if rank is None:
        return None
    return (there[rank], (rank,))


def epoch_story(crowd, logs, epoch):
    """The only story that may have left the pages of an epoch, None if there is none."""
    pages = [(page[1], guest, page[2]) for guest, log in enumerate(logs) for page in log if page[0] == epoch]
    ranked = sorted(pages)
    there = [guest for _, guest, _ in ranked]
    entries = [marks for _, _, marks in ranked]
    return struck_back([0] * len(there), entries, lambda last: guest_told(crowd, there, last))


def acted(crowd, first, stories):
    """(the roll, the logs) behind stories one behind another, from the begin of a first epoch."""
    roll = Roll(crowd, first)
    logs = [()] * crowd.many
    for story in stories:
        for guest in story:
            epoch, rank, mark = roll.act(guest)
            logs[guest] = with_entry(logs[guest], epoch, rank, mark)
    return (roll, tuple(logs))


def told_journal(crowd, logs):
    """(first epoch, stories) that leave logs that are right, None if none do."""
    epochs = sorted(set([epoch for log in logs for epoch, _, _ in log]))
    if not epochs:
        return (0, ())
    stories = []
    for epoch in epochs:
        story = epoch_story(crowd, logs, epoch)
        if story is None:
            return None
        stories.append(story)
    _, left = acted(crowd, epochs[0], stories)
    # A roll also tells ranks and where epochs end: only if all of this is right the logs are the same.
    if left != logs:
        return None
    return (epochs[0], tuple(stories))


def journal_of(crowd, logs):
    """(the first epoch that the logs tell, by epoch the story of its guests)."""
    journal = told_journal(crowd, check_pages(crowd, logs))
    if journal is None:
        raise Refused(logs)
    return journal


def cut_pages(crowd, logs, epoch):
    """The logs without the pages of all epochs below a number."""
    pages = check_pages(crowd, logs)
    need_epoch(epoch)
    return tuple([tuple([page for page in log if page[0] >= epoch]) for log in pages])


def resumed(crowd, logs):
    """The roll as it stands behind the deeds that the logs tell."""
    first, stories = journal_of(crowd, logs)
    roll, _ = acted(crowd, first, stories)
    return roll
