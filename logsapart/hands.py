"""Hands with their marks, their share, and the stories of who acted."""

from math import lcm

from logsapart.basics import is_below, is_sequence, sum_of_parts
from logsapart.errors import BadHands, BadStory, NoHand, NoTelling, Refused

FEWEST_HANDS = 2
MOST_HANDS = 8
MOST_MARKS = 60
LONGEST = 10000


class Hands:
    """Hands, numbered from 0, each with a number of marks of its own."""

    def __init__(self, marks):
        at = wrong_marks(marks)
        if at is not None:
            raise BadHands(at)
        self.marks = tuple(marks)
        self.many = len(self.marks)

    def __eq__(self, other):
        return isinstance(other, Hands) and self.marks == other.marks


def is_marks_number(value):
    """Whether any value is a number of marks that a hand may have."""
    return is_below(value, MOST_MARKS + 1) and value > 0


def wrong_marks(value, fewest=FEWEST_HANDS, most=MOST_HANDS):
    """None if any value is what Hands takes, or a crowd of so many, else what BadHands tells of it."""
    if not is_sequence(value) or len(value) < fewest or len(value) > most:
        return -1
    for at, marks in enumerate(value):
        if not is_marks_number(marks):
            return at
    return None


def share(hands):
    """The sum of 1 / k over the hands' numbers k of marks: (top, bottom) in least terms."""
    return sum_of_parts([1] * hands.many, hands.marks)


def is_telling(hands):
    """Whether the share is at most 1."""
    top, bottom = share(hands)
    return top <= bottom


def check_share(top, bottom):
    """Nothing, if a share is at most 1."""
    if top > bottom:
        raise NoTelling(top, bottom)


def need_telling(hands):
    """The hands, if their share is at most 1."""
    top, bottom = share(hands)
    check_share(top, bottom)
    return hands


def need_hand(hands, hand):
    """The hand, if any value is one."""
    if not is_below(hand, hands.many):
        raise NoHand(hand)
    return hand


def check_items(value, bound):
    """Any value as a tuple, if it is a sequence of at most 10,000 numbers below a bound."""
    if not is_sequence(value) or len(value) > LONGEST:
        raise BadStory(-1)
    for at, item in enumerate(value):
        if not is_below(item, bound):
            raise BadStory(at)
    return tuple(value)


def is_story(hands, value):
    """Whether any value is a story of these hands."""
    if not is_sequence(value) or len(value) > LONGEST:
        return False
    return all([is_below(hand, hands.many) for hand in value])


def check_story(hands, value):
    """Any value as a tuple, if it is a story of these hands."""
    return check_items(value, hands.many)


def room(hands):
    """What the share leaves of 1: (top, bottom) in least terms."""
    top, bottom = share(need_telling(hands))
    # A divisor of bottom and bottom - top divides top, too: these are least terms.
    return (bottom - top, bottom)


def new_marks(hands):
    """The fewest marks with which one hand more finds room; None if there is no room."""
    top, bottom = room(hands)
    if top == 0:
        return None
    return (bottom + top - 1) // top


def hands_more(hands, marks):
    """How many hands more, each with so many marks, find room."""
    top, bottom = room(hands)
    if not is_marks_number(marks):
        raise Refused(marks)
    return top * marks // bottom


def common_multiple(hands):
    """The least common multiple of all numbers of marks."""
    multiple = 1
    for marks in hands.marks:
        multiple = lcm(multiple, marks)
    return multiple
