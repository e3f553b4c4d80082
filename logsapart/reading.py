"""Reading logs back: strike the last entry of whoever the dial tells, and so on."""

from logsapart.dials import teller
from logsapart.errors import Refused
from logsapart.logs import check_logs, need_last


def struck_back(last, logs, tell):
    """The deeds since these last marks, told one by one by the last marks behind them; None if they are not.

    What tells gives, for last marks, (deed, the hands whose last entries it left), or None.
    """
    rows = [[mark, *log] for mark, log in zip(last, logs)]
    left = sum([len(log) for log in logs])
    deeds = []
    while left > 0:
        told = tell(tuple([row[-1] for row in rows]))
        if told is None:
            return None
        deed, lot = told
        if not all([len(rows[hand]) > 1 for hand in lot]):
            return None
        for hand in lot:
            rows[hand].pop()
        left = left - len(lot)
        deeds.append(deed)
    return tuple(deeds[::-1])


def deeds_since(dial, last, logs):
    """Who acted since these last marks, so that these logs were left; None if no deeds leave them."""
    return struck_back(last, logs, lambda row: one_hand(teller(dial, row)))


def one_hand(hand):
    """A hand that was last as what tells gives it, None for nobody."""
    if hand is None:
        return None
    return (hand, (hand,))


def whole_story(dial, logs):
    """The story that leaves logs that are right, None if none does."""
    return deeds_since(dial, (0,) * dial.hands.many, logs)


def story_of(dial, logs):
    """The story that leaves these logs."""
    story = whole_story(dial, check_logs(dial.hands, logs))
    if story is None:
        raise Refused(logs)
    return story


def is_left(dial, logs):
    """Whether some story leaves these logs."""
    return whole_story(dial, check_logs(dial.hands, logs)) is not None


def read_from(dial, last, logs):
    """The hands that acted since a moment with these last marks, told by all entries since."""
    row = need_last(dial.hands, last)
    deeds = deeds_since(dial, row, check_logs(dial.hands, logs))
    if deeds is None:
        raise Refused(logs)
    return deeds


def tail_of(dial, logs):
    """The last deeds, told by logs of which only the last entries were kept."""
    rows = [list(log) for log in check_logs(dial.hands, logs)]
    deeds = []
    while all([len(row) > 0 for row in rows]):
        hand = teller(dial, [row[-1] for row in rows])
        if hand is None:
            raise Refused(logs)
        rows[hand].pop()
        deeds.append(hand)
    return tuple(deeds[::-1])
