"""Reading logs back: strike the last entry of whoever the dial tells, and so on."""

from logsapart.dials import need_last, teller
from logsapart.errors import Refused
from logsapart.logs import check_logs


def deeds_since(dial, last, logs):
    """Who acted since these last marks, so that these logs were left; None if no deeds leave them."""
    rows = [[mark, *log] for mark, log in zip(last, logs)]
    deeds = []
    for _ in range(sum([len(log) for log in logs])):
        hand = teller(dial, [row[-1] for row in rows])
        if hand is None or len(rows[hand]) == 1:
            return None
        rows[hand].pop()
        deeds.append(hand)
    return tuple(deeds[::-1])


def whole_story(dial, logs):
    """The story that leaves logs that are right, None if none does."""
    return deeds_since(dial, (0,) * dial.hands.many, logs)


def story_of(dial, logs):
    """The story that leaves these logs."""
    story = whole_story(dial, check_logs(dial.hands, logs))
    if story is None:
        raise Refused(logs)
    return story


def is_left(dial, logs):
    """Whether some story leaves these logs."""
    return whole_story(dial, check_logs(dial.hands, logs)) is not None


def read_from(dial, last, logs):
    """The hands that acted since a moment with these last marks, told by all entries since."""
    row = need_last(dial, last)
    deeds = deeds_since(dial, row, check_logs(dial.hands, logs))
    if deeds is None:
        raise Refused(logs)
    return deeds


def tail_of(dial, logs):
    """The last deeds, told by logs of which only the last entries were kept."""
    rows = [list(log) for log in check_logs(dial.hands, logs)]
    deeds = []
    while all([len(row) > 0 for row in rows]):
        hand = teller(dial, [row[-1] for row in rows])
        if hand is None:
            raise Refused(logs)
        rows[hand].pop()
        deeds.append(hand)
    return tuple(deeds[::-1])
