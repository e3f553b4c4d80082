"""Markers with standings: marks by what happened so far, deeds that clash, stories left alike."""

from logsapart.basics import as_tuples, fits_bounds, is_below, is_sequence, with_item
from logsapart.errors import Refused, TooGreat
from logsapart.hands import check_story, is_story
from logsapart.lasts import row_index, steps_of
from logsapart.logs import check_logs, empty_logs
from logsapart.rates import need_length
from logsapart.rules import row_behind
from logsapart.tables import need_good

MOST_STANDINGS = 4000


class Marker:
    """By standing and hand the mark of its deed and the standing behind it; it begins with standing 0."""

    def __init__(self, hands, rows):
        if not are_rows(hands, rows):
            raise Refused(rows)
        self.hands = hands
        self.rows = tuple([as_tuples(row) for row in rows])
        self.standings = len(self.rows)

    def __eq__(self, other):
        return isinstance(other, Marker) and self.hands == other.hands and self.rows == other.rows


def are_rows(hands, value):
    """Whether any value is what Marker takes beside its hands."""
    if not is_sequence(value) or len(value) == 0 or len(value) > MOST_STANDINGS:
        return False
    return all([is_standing_row(hands, row, len(value)) for row in value])


def is_standing_row(hands, value, standings):
    """Whether any value are pairs, by hand, of a mark of it and a standing."""
    if not is_sequence(value) or len(value) != hands.many:
        return False
    return all([fits_bounds(pair, (marks, standings)) for pair, marks in zip(value, hands.marks)])


def marker_logs(marker, story):
    """(logs, standing) behind a story."""
    told = check_story(marker.hands, story)
    logs = empty_logs(marker.hands)
    standing = 0
    for hand in told:
        mark, standing = marker.rows[standing][hand]
        logs[hand].append(mark)
    return (as_tuples(logs), standing)


def table_marker(table):
    """The marker of a good table: its standings are the rows of last marks."""
    rule = need_good(table)
    steps = steps_of(table.hands)
    rows = []
    for last in rule.rows:
        behind = [row_behind(rule, last, hand) for hand in range(table.hands.many)]
        rows.append([(row[hand], row_index(steps, row)) for hand, row in enumerate(behind)])
    return Marker(table.hands, rows)


def come_to(marker):
    """The standings to which some story leads, ascending."""
    known = {0: True}
    waiting = [0]
    while waiting:
        standing = waiting.pop()
        for _, behind in marker.rows[standing]:
            if behind not in known:
                known[behind] = True
                waiting.append(behind)
    return sorted(known)


def deeds_to(marker):
    """By standing the deeds (standing, hand) that lead to it, ascending."""
    deeds = [[] for row in marker.rows]
    for standing in come_to(marker):
        for hand, (_, behind) in enumerate(marker.rows[standing]):
            deeds[behind].append((standing, hand))
    return deeds


def mark_at(marker, deed):
    """The mark of a deed (standing, hand)."""
    standing, hand = deed
    mark, _ = marker.rows[standing][hand]
    return mark


def do_clash(marker, one, other):
    """Whether two deeds that lead to one standing are not of one hand or bear the same mark."""
    return one[1] != other[1] or mark_at(marker, one) == mark_at(marker, other)


def first_clash(marker, deeds):
    """The least two of some ascending deeds that clash, as a list; an empty one if none do."""
    for at, one in enumerate(deeds):
        for other in deeds[at + 1:]:
            if do_clash(marker, one, other):
                return [(one, other)]
    return []


def clash_paper(marker):
    """("clash", one, other) of the least two deeds that clash, None if none do."""
    clashes = []
    for deeds in deeds_to(marker):
        clashes.extend(first_clash(marker, deeds))
    if not clashes:
        return None
    one, other = min(clashes)
    return ("clash", one, other)


def is_reversible(marker):
    """Whether no deeds clash."""
    return clash_paper(marker) is None


def marker_story(marker, logs, standing):
    """The story that leaves these logs and this standing by a reversible marker."""
    if not is_reversible(marker):
        raise Refused(marker)
    rows = check_logs(marker.hands, logs)
    if not is_below(standing, marker.standings):
        raise Refused(standing)
    story = story_back(marker, standing, rows)
    if story is None:
        raise Refused(logs)
    return story


def story_back(marker, standing, logs):
    """The story told by logs and standing of a reversible marker, None if none leaves both."""
    rows = [list(log) for log in logs]
    deeds = deeds_to(marker)
    story = []
    for _ in range(sum([len(row) for row in rows])):
        if not deeds[standing]:
            return None
        _, hand = deeds[standing][0]
        mark = rows[hand].pop() if rows[hand] else None
        came = [deed for deed in deeds[standing] if mark_at(marker, deed) == mark]
        if not came:
            return None
        standing, _ = came[0]
        story.append(hand)
    if standing != 0:
        return None
    return tuple(story[::-1])


def with_deed(marker, begun, hand):
    """(story, logs, standing) behind a deed more."""
    story, logs, standing = begun
    mark, behind = marker.rows[standing][hand]
    return ((*story, hand), with_item(logs, hand, (*logs[hand], mark)), behind)


def least_twins(begun):
    """The least two stories with the same logs, of (story, logs, standing) ascending; None if there are none."""
    alike = {}
    for story, logs, _ in begun:
        alike.setdefault(logs, []).append(story)
    # Logs come here in the order of the first story that leaves them.
    for stories in alike.values():
        if len(stories) > 1:
            return (stories[0], stories[1])
    return None


def two_stories(marker, length, *, most=20000):
    """("stories", one, other), the first two that leave the same logs; None if there are none."""
    need_length(length)
    begun = [((), ((),) * marker.hands.many, 0)]
    stories = 1
    for _ in range(length):
        stories = stories + len(begun) * marker.hands.many
        if stories > most:
            raise TooGreat(most)
        begun = [with_deed(marker, each, hand) for each in begun for hand in range(marker.hands.many)]
        twins = least_twins(begun)
        if twins is not None:
            return ("stories", *twins)
    return None


def stories_hold(marker, value):
    """Whether any value is ("stories", one, other) of two unlike stories that leave the same logs."""
    if not is_sequence(value) or len(value) != 3 or value[0] != "stories":
        return False
    _, one, other = value
    if not is_story(marker.hands, one) or not is_story(marker.hands, other) or tuple(one) == tuple(other):
        return False
    return marker_logs(marker, one)[0] == marker_logs(marker, other)[0]
