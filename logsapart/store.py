"""Stores: things of cells that hands write into, undo and redo, their order told by the marks alone."""

from logsapart.basics import as_tuples, fits_bounds, is_sequence, with_item
from logsapart.dials import Dial, teller, turning_mark
from logsapart.errors import Refused
from logsapart.hands import need_hand
from logsapart.reading import whole_story
from logsapart.spans import need_place

MOST_CELLS = 20
BEYOND_NUMBERS = 1000000000


def are_cells(value):
    """Whether any value is what cells may hold."""
    if not is_sequence(value) or not 1 <= len(value) <= MOST_CELLS:
        return False
    return fits_bounds(value, [BEYOND_NUMBERS] * len(value))


def last_of(logs):
    """The last marks of logs of entries, 0 for none."""
    return tuple([log[-1][0] if log else 0 for log in logs])


def hand_told(dial, logs):
    """The hand that logs of entries tell to have acted last, None for empty ones."""
    if not any([len(log) > 0 for log in logs]):
        return None
    return teller(dial, last_of(logs))


def entered(dial, logs, hand, cell, ahead, behind):
    """Logs with an entry more of a hand, with the mark that it bears there."""
    mark = turning_mark(dial, last_of(logs), hand)
    return with_item(logs, hand, (*logs[hand], (mark, cell, ahead, behind)))


def moved(dial, logs, others, hand):
    """(logs without the last entry of a hand, other logs with it, the entry)."""
    _, cell, ahead, behind = logs[hand][-1]
    left = with_item(logs, hand, logs[hand][:-1])
    return (left, entered(dial, others, hand, cell, ahead, behind), logs[hand][-1])


class Store:
    """Numbers in cells, and of each hand a log of done entries and one of undone entries."""

    def __init__(self, hands, cells):
        self.dial = Dial(hands)
        if not are_cells(cells):
            raise Refused(cells)
        self.hands = hands
        self.cells = tuple(cells)
        self.done = ((),) * hands.many
        self.undone = ((),) * hands.many

    def put(self, hand, cell, number):
        """A hand writes a number into a cell; returns the mark of its entry."""
        need_hand(self.hands, hand)
        need_place(len(self.cells), cell)
        need_place(BEYOND_NUMBERS, number)
        self.done = entered(self.dial, self.done, hand, cell, self.cells[cell], number)
        self.undone = ((),) * self.hands.many
        self.cells = with_item(self.cells, cell, number)
        return last_of(self.done)[hand]

    def who_undoes(self):
        """The hand whose deed is to be undone first, None for nobody."""
        return hand_told(self.dial, self.done)

    def who_redoes(self):
        """The hand whose deed is to be redone first, None for nobody."""
        return hand_told(self.dial, self.undone)

    def undo_last(self):
        """Undoes the last deed that is done; returns its hand, None for nobody."""
        hand = self.who_undoes()
        if hand is not None:
            self.done, self.undone, entry = moved(self.dial, self.done, self.undone, hand)
            _, cell, ahead, _ = entry
            self.cells = with_item(self.cells, cell, ahead)
        return hand

    def redo_next(self):
        """Redoes the deed that was undone last; returns its hand, None for nobody."""
        hand = self.who_redoes()
        if hand is not None:
            self.undone, self.done, entry = moved(self.dial, self.undone, self.done, hand)
            _, cell, _, behind = entry
            self.cells = with_item(self.cells, cell, behind)
        return hand

    def sheet(self):
        """All that lies there: (cells, done, undone)."""
        return (self.cells, self.done, self.undone)


class Sheet:
    """The logs of a sheet that can be read, with the hands of the deeds done and undone, in their order."""

    def __init__(self, cells, done, undone, did, undid):
        self.cells = cells
        self.done = done
        self.undone = undone
        self.did = did
        self.undid = undid


def are_entry_logs(hands, cells, value):
    """Whether any value is, for each hand, a sequence of entries (mark, cell, ahead, behind)."""
    if not is_sequence(value) or len(value) != hands.many or not all([is_sequence(log) for log in value]):
        return False
    bounds = [(marks, cells, BEYOND_NUMBERS, BEYOND_NUMBERS) for marks in hands.marks]
    return all([fits_bounds(entry, bound) for log, bound in zip(value, bounds) for entry in log])


def entry_tuples(logs):
    """Logs of entries as tuples, within, too."""
    return tuple([as_tuples(log) for log in logs])


def entry_story(dial, logs):
    """The hands of the entries of logs in the order in which they came there, None if none leaves these marks."""
    return whole_story(dial, [[entry[0] for entry in log] for log in logs])


def readable(hands, value):
    """The sheet of any value, None if it does not tell cells and logs that can be read."""
    dial = Dial(hands)
    if not is_sequence(value) or len(value) != 3:
        return None
    cells, done, undone = value
    if not are_cells(cells):
        return None
    if not are_entry_logs(hands, len(cells), done) or not are_entry_logs(hands, len(cells), undone):
        return None
    did = entry_story(dial, done)
    undid = entry_story(dial, undone)
    if did is None or undid is None:
        return None
    return Sheet(tuple(cells), entry_tuples(done), entry_tuples(undone), did, undid)


def taken_back(logs, story):
    """(hand, entry) of all entries, the last one of the story first."""
    left = [len(log) for log in logs]
    taken = []
    for hand in story[::-1]:
        left[hand] -= 1
        taken.append((hand, logs[hand][left[hand]]))
    return taken


def first_cells(sheet):
    """The cells at first, None if some number in a cell is not the one that its entry tells."""
    cells = list(sheet.cells)
    for _, (_, cell, ahead, behind) in taken_back(sheet.done, sheet.did):
        if cells[cell] != behind:
            return None
        cells[cell] = ahead
    return tuple(cells)


def is_redone(sheet):
    """Whether the undone entries can be redone from the cells as they are."""
    cells = list(sheet.cells)
    for _, (_, cell, ahead, behind) in taken_back(sheet.undone, sheet.undid):
        if cells[cell] != ahead:
            return False
        cells[cell] = behind
    return True


def need_sheet(hands, value):
    """The sheet of any value, if it is one."""
    sheet = readable(hands, value)
    if sheet is None or first_cells(sheet) is None or not is_redone(sheet):
        raise Refused(value)
    return sheet


def deeds_told(logs, story):
    """Deeds (hand, cell, number written) of all entries, the last one of the story first."""
    return [(hand, cell, behind) for hand, (_, cell, _, behind) in taken_back(logs, story)]


def deeds_of(hands, sheet):
    """(the cells at first, the deeds done first to last, the undone deeds in the order of redoing them)."""
    told = need_sheet(hands, sheet)
    done = deeds_told(told.done, told.did)
    return (first_cells(told), tuple(done[::-1]), tuple(deeds_told(told.undone, told.undid)))


def store_of(hands, sheet):
    """A store with this sheet."""
    told = need_sheet(hands, sheet)
    store = Store(hands, told.cells)
    store.done = told.done
    store.undone = told.undone
    return store


def mended_sheet(hands, sheet):
    """The sheet of logs and cells of which one may not have been written by the last deed, undoing or redoing."""
    told = readable(hands, sheet)
    if told is None:
        raise Refused(sheet)
    cells = told.cells
    for _, (_, cell, _, behind) in taken_back(told.done, told.did)[:1]:
        cells = with_item(cells, cell, behind)
    for _, (_, cell, ahead, _) in taken_back(told.undone, told.undid)[:1]:
        cells = with_item(cells, cell, ahead)
    mended = Sheet(cells, told.done, told.undone, told.did, told.undid)
    if first_cells(mended) is None or not is_redone(mended):
        raise Refused(sheet)
    return (cells, told.done, told.undone)
