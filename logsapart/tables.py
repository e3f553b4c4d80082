"""Tables: whom each row of last marks tells, marks by them, and papers about what they shall tell."""

from logsapart.basics import is_below, is_sequence
from logsapart.dials import Dial, teller
from logsapart.errors import Refused
from logsapart.hands import check_story, need_hand, need_telling
from logsapart.lasts import ascending_rows, flat_rows, is_tells, may_tell, row_index, rows_many, steps_of
from logsapart.logs import check_logs, is_last, need_last
from logsapart.rules import Rule, lacking_flat, matched_tells, rule_logs, rule_story


def all_lasts(hands):
    """All rows of last marks, ascending."""
    return ascending_rows(hands)


class Table:
    """By row of last marks the hand that was last, or None for nobody."""

    def __init__(self, hands, tells):
        if not is_tells(tells, rows_many(hands), hands.many):
            raise Refused(tells)
        self.hands = hands
        self.tells = tuple(tells)

    def __eq__(self, other):
        return isinstance(other, Table) and self.hands == other.hands and self.tells == other.tells


def own_lots(hands):
    """Lots of one hand each, by hand."""
    return tuple([(hand,) for hand in range(hands.many)])


def rule_of(table):
    """A table as a rule for lots of one hand."""
    return Rule(table.hands, own_lots(table.hands), table.tells)


def need_good(table):
    """The rule of a table, if it is good."""
    rule = rule_of(table)
    if lacking_flat(rule) is not None:
        raise Refused(table)
    return rule


def table_who(table, last):
    """Whom a table tells at last marks."""
    row = need_last(table.hands, last)
    return table.tells[row_index(steps_of(table.hands), row)]


def bad_line(table):
    """The least line without a place that tells its hand, None if there is none."""
    return lacking_flat(rule_of(table))


def is_good(table):
    """Whether each line has a place that tells its hand."""
    return bad_line(table) is None


def dial_table(hands):
    """The table that tells what the dial tells."""
    rows = ascending_rows(need_telling(hands))
    dial = Dial(hands)
    return Table(hands, [teller(dial, row) for row in rows])


def table_mark(table, last, hand):
    """The least mark of a hand with which a table tells it, None if none does."""
    row = need_last(table.hands, last)
    need_hand(table.hands, hand)
    steps = steps_of(table.hands)
    for mark, place in enumerate(flat_rows(table.hands, row, (hand,))):
        if table.tells[row_index(steps, place)] == hand:
            return mark
    return None


def table_logs(table, story):
    """The logs that a story leaves by a good table."""
    rule = need_good(table)
    return rule_logs(rule, check_story(table.hands, story))


def table_story(table, logs):
    """The story that leaves these logs by a good table."""
    rule = need_good(table)
    story = rule_story(rule, check_logs(table.hands, logs))
    if story is None:
        raise Refused(logs)
    return story


def is_telling_pair(hands, value):
    """Whether any value is a pair of last marks and a hand or None."""
    if not is_sequence(value) or len(value) != 2:
        return False
    last, who = value
    return is_last(hands, last) and (who is None or is_below(who, hands.many))


def need_told(hands, told):
    """By row of last marks a list: empty if nothing is told of it, else of the hand, or None, that is told."""
    wanted = [[] for row in ascending_rows(hands)]
    if not is_sequence(told) or not all([is_telling_pair(hands, pair) for pair in told]):
        raise Refused(told)
    steps = steps_of(hands)
    for last, who in told:
        at = row_index(steps, last)
        if wanted[at]:
            raise Refused(told)
        wanted[at].append(who)
    return wanted


def table_paper(hands, told):
    """("table", tells) of a good table that tells so, or ("lines", lines) with too few places."""
    wanted = need_told(hands, told)
    tells, crowd = matched_tells(hands, own_lots(hands), wanted)
    if tells is None:
        return ("lines", tuple(sorted(crowd)))
    return ("table", tuple(tells))


def table_holds(hands, told, value):
    """Whether any value is a paper that is right for what shall be told."""
    wanted = need_told(hands, told)
    if not is_sequence(value) or len(value) != 2:
        return False
    word, paper = value
    if word == "table":
        return is_table_paper(hands, wanted, paper)
    if word == "lines":
        return is_lines_paper(hands, wanted, paper)
    return False


def is_table_paper(hands, wanted, value):
    """Whether any value tells, by row, as a good table that tells what is wanted."""
    if not is_tells(value, len(wanted), hands.many):
        return False
    if not all([may_tell(only, who) for only, who in zip(wanted, value)]):
        return False
    return is_good(Table(hands, value))


def is_line(hands, value):
    """Whether any value is a pair of a hand and last marks of which its own is 0."""
    if not is_sequence(value) or len(value) != 2:
        return False
    hand, last = value
    return is_below(hand, hands.many) and is_last(hands, last) and last[hand] == 0


def is_lines_paper(hands, wanted, value):
    """Whether any value are unlike lines, more than all places that serve one of them."""
    if not is_sequence(value) or not all([is_line(hands, line) for line in value]):
        return False
    lines = {(hand, tuple(last)): True for hand, last in value}
    steps = steps_of(hands)
    serving = {}
    for hand, last in lines:
        for place in flat_rows(hands, last, (hand,)):
            if may_tell(wanted[row_index(steps, place)], hand):
                serving[place] = True
    return len(lines) == len(value) and len(lines) > len(serving)
