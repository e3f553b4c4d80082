"""Good tables of kinds at work: what the hands of a lot write, and what logs tell."""

from logsapart.basics import as_tuples, rows_below
from logsapart.errors import Refused
from logsapart.kinds import check_meetings, need_kind, need_served
from logsapart.lasts import flat_rows, is_tells, rows_many
from logsapart.logs import check_logs, need_last
from logsapart.rules import Rule, lacking_flat, matched_tells, row_behind, rule_logs, rule_story, told_by


def flat_of(kinds, last, kind):
    """The rows of last marks that a deed of a kind may leave, ascending."""
    row = need_last(kinds.hands, last)
    return flat_rows(kinds.hands, row, kinds.lots[need_kind(kinds, kind)])


def need_table(kinds, table):
    """The rule of any value, if it is a table of these kinds."""
    if not is_tells(table, rows_many(kinds.hands), len(kinds.lots)):
        raise Refused(table)
    return Rule(kinds.hands, kinds.lots, tuple(table))


def flat_lacking(kinds, table):
    """(kind, least row) of the first flat in which no row tells its kind, None if the table is good."""
    return lacking_flat(need_table(kinds, table))


def kinds_table(kinds):
    """A table in which each flat of each kind has just one row that tells the kind."""
    need_served(kinds)
    # Each flat gets a row of its own: a share of at most 1 leaves no crowd of flats too few rows.
    tells, _ = matched_tells(kinds.hands, kinds.lots, [[]] * rows_many(kinds.hands))
    return tuple(tells)


class Flats:
    """A good table of kinds at work; the one of kinds_table if none is told."""

    def __init__(self, kinds, table=None):
        need_served(kinds)
        if table is None:
            self.rule = need_table(kinds, kinds_table(kinds))
        else:
            self.rule = need_table(kinds, table)
            if lacking_flat(self.rule) is not None:
                raise Refused(table)
        self.kinds = kinds
        self.table = self.rule.tells

    def __eq__(self, other):
        return isinstance(other, Flats) and self.kinds == other.kinds and self.table == other.table


def who_met(flats, last):
    """The kind that the table tells at last marks, None for none."""
    return told_by(flats.rule, need_last(flats.kinds.hands, last))


def lasts_behind(flats, last, kind):
    """The last marks that a deed of a kind leaves."""
    row = need_last(flats.kinds.hands, last)
    return row_behind(flats.rule, row, need_kind(flats.kinds, kind))


def flats_logs(flats, story):
    """The logs that a story of kinds leaves."""
    return rule_logs(flats.rule, check_meetings(flats.kinds, story))


def flats_story(flats, logs):
    """The story of kinds that leaves these logs."""
    story = rule_story(flats.rule, check_logs(flats.kinds.hands, logs))
    if story is None:
        raise Refused(logs)
    return story


def busy_hands(kinds):
    """The hands that are in some lot, ascending."""
    return [hand for hand in range(kinds.hands.many) if any([hand in lot for lot in kinds.lots])]


def flats_tail(flats, logs):
    """(the last deeds, the logs without their entries) of logs whose beginnings may be gone."""
    rows = [list(log) for log in check_logs(flats.kinds.hands, logs)]
    busy = busy_hands(flats.kinds)
    story = []
    while all([len(rows[hand]) > 0 for hand in busy]):
        kind = told_by(flats.rule, [row[-1] if row else 0 for row in rows])
        if kind is None:
            break
        for hand in flats.kinds.lots[kind]:
            rows[hand].pop()
        story.append(kind)
    return (tuple(story[::-1]), as_tuples(rows))


def some_of(lot):
    """All tuples of at least one, but not all, of a lot's hands, each ascending."""
    parts = []
    for chosen in rows_below([2] * len(lot)):
        if 0 < sum(chosen) < len(lot):
            parts.append(tuple([hand for hand, taken in zip(lot, chosen) if taken == 1]))
    return parts


def torn_story(flats, logs, kind, hands):
    """The story behind which, of a deed of a kind, some hands alone have written; None if there is none."""
    if not all([logs[hand] for hand in hands]):
        return None
    ahead = tuple([log[:-1] if hand in hands else log for hand, log in enumerate(logs)])
    behind = row_behind(flats.rule, tuple([log[-1] if log else 0 for log in ahead]), kind)
    if not all([logs[hand][-1] == behind[hand] for hand in hands]):
        return None
    return rule_story(flats.rule, ahead)


def torn_ends(flats, logs):
    """All (story, kind, hands) of whose last deed these hands alone may have written; first a whole story."""
    rows = check_logs(flats.kinds.hands, logs)
    whole = rule_story(flats.rule, rows)
    ends = [] if whole is None else [(whole, None, ())]
    for kind, lot in enumerate(flats.kinds.lots):
        for hands in sorted(some_of(lot)):
            story = torn_story(flats, rows, kind, hands)
            if story is not None:
                ends.append((story, kind, hands))
    return tuple(ends)
