"""Numbers of deeds: how many logs they have, and the marks with which they have the fewest."""

from logsapart.basics import is_below, is_sequence, product_of
from logsapart.counts import logs_with
from logsapart.errors import Refused
from logsapart.hands import FEWEST_HANDS, MOST_HANDS, MOST_MARKS
from logsapart.scales import SLACK, scale_of

MOST_NUMBER = 400
FEWEST_MARKS = 2


def check_numbers(numbers):
    """Any value as a tuple, if it is a sequence of 2 to 8 numbers of deeds."""
    if not is_sequence(numbers) or len(numbers) < FEWEST_HANDS or len(numbers) > MOST_HANDS:
        raise Refused(numbers)
    if not all([is_below(number, MOST_NUMBER + 1) and number > 0 for number in numbers]):
        raise Refused(numbers)
    return tuple(numbers)


def log_number(hands, numbers):
    """How many logs there are with so many entries of each hand."""
    told = check_numbers(numbers)
    if len(told) != hands.many:
        raise Refused(numbers)
    return logs_with(hands, told)


def to_the_power(number, times):
    """A number multiplied by itself so many times."""
    return product_of([number] * times)


def weight_bounds(numbers):
    """(F to the power of F, the product of all f to the power of f), F being the sum of the numbers f."""
    told = check_numbers(numbers)
    deeds = sum(told)
    return (to_the_power(deeds, deeds), product_of([to_the_power(number, number) for number in told]))


class Spread:
    """A search for marks: the hands by falling numbers of deeds, and the best marks so far.

    Costs are scales of how many logs there are. Of two hands the one with more deeds has not more
    marks, for else it would pay to change them: so the marks grow along these hands.
    """

    def __init__(self, numbers):
        order = sorted([(-number, hand) for hand, number in enumerate(numbers)])
        self.hands = [hand for _, hand in order]
        self.numbers = [numbers[hand] for hand in self.hands]
        self.scales = [0] + [scale_of(marks) for marks in range(1, MOST_MARKS + 1)]
        # The deeds of the first hands, and bounds above the scales of all f to the power of f.
        self.deeds = [0]
        self.own = [0]
        for number in self.numbers:
            self.deeds.append(self.deeds[-1] + number)
            self.own.append(self.own[-1] + number * (scale_of(number) + SLACK))
        self.best = None
        self.limit = 0

    def is_worse(self, cost):
        """Whether a cost, told from below, is surely above that of the best marks."""
        return self.best is not None and cost > self.limit

    def offer(self, marks, cost):
        """Keeps marks if they are the best: those with the fewest logs, then the least tuple by hand."""
        logs = product_of([to_the_power(k, number) for k, number in zip(marks, self.numbers)])
        placed = sorted(zip(self.hands, marks))
        found = (logs, tuple([k for _, k in placed]))
        if self.best is None or found < self.best:
            self.best = found
            self.limit = cost + SLACK * self.deeds[-1]


def rest_cost(spread, at, top, bottom):
    """A bound below the costs of the hands from one on, if their share is at most top over bottom.

    If all fractions were marks the best ones would be as many times 1 over a hand's deeds for each
    of them; but hands for which that comes to more than 60 have 60.
    """
    end = len(spread.numbers)
    above = top
    below = bottom
    cost = 0
    while end > at + 1:
        number = spread.numbers[end - 1]
        if (spread.deeds[end] - spread.deeds[at]) * below <= MOST_MARKS * number * above:
            break
        above = above * MOST_MARKS - below
        below = below * MOST_MARKS
        cost = cost + number * spread.scales[MOST_MARKS]
        end -= 1
    deeds = spread.deeds[end] - spread.deeds[at]
    own = spread.own[end] - spread.own[at]
    return cost + deeds * (scale_of(deeds) + scale_of(below) - scale_of(above) - SLACK) - own


def next_marks(spread, begun):
    """All rows of marks with one more, the best bound first: (bound, marks, top, bottom, cost).

    What is left of 1 is top over bottom; so much is left that all others still find room.
    """
    marks, top, bottom, cost = begun
    at = len(marks)
    others = len(spread.numbers) - at - 1
    fewest = max(marks[-1] if marks else FEWEST_MARKS, bottom // top + 1)
    rows = []
    for k in range(fewest, MOST_MARKS + 1):
        above = top * k - bottom
        below = bottom * k
        if above * MOST_MARKS >= others * below:
            dearer = cost + spread.numbers[at] * spread.scales[k]
            bound = dearer + rest_cost(spread, at + 1, above, below)
            rows.append((bound, (*marks, k), above, below, dearer))
    return sorted(rows)


def try_last_two(spread, begun):
    """Offers all marks that go on with these by the last two hands, the last one having the fewest that it may."""
    marks, top, bottom, cost = begun
    fewest = max(marks[-1] if marks else FEWEST_MARKS, bottom // top + 1)
    number, last_number = spread.numbers[-2:]
    for k in range(fewest, MOST_MARKS + 1):
        above = top * k - bottom
        last = max(k, (bottom * k + above - 1) // above)
        if last <= MOST_MARKS:
            dearer = cost + number * spread.scales[k] + last_number * spread.scales[last]
            if not spread.is_worse(dearer):
                spread.offer((*marks, k, last), dearer)


def try_marks(spread, begun):
    """Offers all marks that go on with these, but those that are surely worse than others."""
    if len(begun[0]) == len(spread.numbers) - 2:
        try_last_two(spread, begun)
        return
    for bound, marks, top, bottom, cost in next_marks(spread, begun):
        if not spread.is_worse(bound):
            try_marks(spread, (marks, top, bottom, cost))


def least_marks(numbers):
    """By hand how many marks, so that the share is at most 1 and there are the fewest logs."""
    spread = Spread(check_numbers(numbers))
    try_marks(spread, ((), 1, 1, 0))
    _, marks = spread.best
    return marks
