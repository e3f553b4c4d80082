"""Rules: whom each row of last marks tells, and what deeds write so that they are told."""

from logsapart.basics import as_tuples
from logsapart.lasts import ascending_rows, flat_rows, flat_start, may_tell, row_index, steps_of
from logsapart.logs import empty_logs
from logsapart.matching import match_all
from logsapart.reading import struck_back


class Rule:
    """By row of last marks which of some lots it tells, or None; a lot's flat is where its deed may lead."""

    def __init__(self, hands, lots, tells):
        self.hands = hands
        self.lots = lots
        self.tells = tells
        self.steps = steps_of(hands)
        self.rows = ascending_rows(hands)
        self.least = {}
        for row, who in zip(self.rows, tells):
            if who is not None:
                # Rows come ascending, so the first one of a flat is its least.
                self.least.setdefault((who, flat_start(row, lots[who])), row)


def told_by(rule, last):
    """The lot that last marks tell, None for none."""
    return rule.tells[row_index(rule.steps, last)]


def row_behind(rule, last, who):
    """The least row that tells a lot to which its deed may lead from last marks, None if there is none."""
    return rule.least.get((who, flat_start(last, rule.lots[who])))


def all_flats(lots, rows):
    """All flats, ascending, as pairs (lot, least row), of all rows of last marks."""
    return [(who, row) for who, lot in enumerate(lots) for row in rows if all([row[hand] == 0 for hand in lot])]


def lacking_flat(rule):
    """The least flat in which no row tells its lot, None if there is none."""
    for flat in all_flats(rule.lots, rule.rows):
        if flat not in rule.least:
            return flat
    return None


def rule_logs(rule, story):
    """The logs that a story of lots leaves, if each of them finds a row that tells it."""
    last = (0,) * rule.hands.many
    logs = empty_logs(rule.hands)
    for who in story:
        last = row_behind(rule, last, who)
        for hand in rule.lots[who]:
            logs[hand].append(last[hand])
    return as_tuples(logs)


def lot_told(rule, last):
    """(lot, its hands) that last marks tell, None for none."""
    who = told_by(rule, last)
    if who is None:
        return None
    return (who, rule.lots[who])


def rule_story(rule, logs):
    """The story of lots that leaves these logs, None if none does."""
    story = struck_back((0,) * rule.hands.many, logs, lambda row: lot_told(rule, row))
    # Rows may tell who was last though deeds lead to other, lesser ones.
    if story is None or rule_logs(rule, story) != logs:
        return None
    return story


def matched_tells(hands, lots, told):
    """(tells, None) in which each flat has a row that tells its lot, or (None, crowd).

    `told` has by row a list: empty, or of whom alone the row may tell (None for nobody).
    The crowd are flats, pairs (lot, least row), more than all rows that may tell one of them.
    """
    flats = all_flats(lots, ascending_rows(hands))
    choices = [flat_choices(hands, lots, told, flat) for flat in flats]
    held, crowd = match_all(choices, len(told))
    if held is None:
        return (None, [flats[seeker] for seeker in crowd])
    tells = [only[0] if only else None for only in told]
    for (who, _), index in zip(flats, held):
        tells[index] = who
    return (tells, None)


def flat_choices(hands, lots, told, flat):
    """The indexes of a flat's rows that may tell its lot, ascending."""
    who, start = flat
    steps = steps_of(hands)
    indexes = [row_index(steps, row) for row in flat_rows(hands, start, lots[who])]
    return [index for index in indexes if may_tell(told[index], who)]
