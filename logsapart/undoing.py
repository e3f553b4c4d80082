"""Undoing: the hand that the place tells undoes first, by its own last mark alone."""

from logsapart.digits import Digits, read_back, step, step_back, who_at
from logsapart.errors import Refused
from logsapart.logs import check_logs
from logsapart.spans import need_place


class UndoDesk:
    """A desk that hears deeds, keeps the place alone, and undoes deeds by the marks handed in."""

    def __init__(self, hands, number=None):
        self.digits = Digits(hands, number)
        self.place = 0
        self.deeds = 0

    def act(self, hand):
        """Hears a deed of a hand; returns the mark that the hand keeps."""
        behind, mark = step(self.digits, self.place, hand)
        self.place = behind
        self.deeds += 1
        return mark

    def who_undoes(self):
        """The hand that must undo first, None for nobody."""
        if self.deeds == 0:
            return None
        return who_at(self.digits, self.place)

    def undo(self, mark):
        """Undoes the last deed by its mark; returns its hand."""
        if self.deeds == 0:
            raise Refused(mark)
        hand, ahead = step_back(self.digits, self.place, mark)
        self.place = ahead
        self.deeds -= 1
        return hand


def fitting_places(digits, logs, place=0):
    """The places, ascending, from which logs are read back whole to a place."""
    rows = check_logs(digits.hands, logs)
    start = need_place(digits.number, place)
    entries = sum([len(row) for row in rows])
    fitting = []
    for behind in range(digits.number):
        story, ahead = read_back(digits, behind, rows)
        if len(story) == entries and ahead == start:
            fitting.append(behind)
    return tuple(fitting)
