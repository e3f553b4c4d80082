"""Numbers of deeds: how many logs they have, and the marks with which they have the fewest."""

from logsapart.basics import is_below, is_sequence, product_of
from logsapart.counts import logs_with
from logsapart.errors import Refused
from logsapart.falls import FEWEST_MARKS, falls_of, steps_of, up_to
from logsapart.hands import FEWEST_HANDS, MOST_HANDS, MOST_MARKS
from logsapart.scales import SCALES, SLACK, WHOLE

MOST_NUMBER = 400


def check_numbers(numbers):
    """Any value as a tuple, if it is a sequence of 2 to 8 numbers of deeds."""
    if not is_sequence(numbers) or len(numbers) < FEWEST_HANDS or len(numbers) > MOST_HANDS:
        raise Refused(numbers)
    if not all([is_below(number, MOST_NUMBER + 1) and number > 0 for number in numbers]):
        raise Refused(numbers)
    return tuple(numbers)


def log_number(hands, numbers):
    """How many logs there are with so many entries of each hand."""
    told = check_numbers(numbers)
    if len(told) != hands.many:
        raise Refused(numbers)
    return logs_with(hands, told)


def to_the_power(number, times):
    """A number multiplied by itself so many times."""
    result = 1
    power = number
    left = times
    while left > 0:
        if left % 2 == 1:
            result = result * power
        power = power * power
        left = left // 2
    return result


def weight_bounds(numbers):
    """(F to the power of F, the product of all f to the power of f), F being the sum of the numbers f."""
    told = check_numbers(numbers)
    deeds = sum(told)
    return (to_the_power(deeds, deeds), product_of([to_the_power(number, number) for number in told]))


class Spread:
    """A search for marks: the hands by falling numbers of deeds, and the best marks so far.

    Costs are scales of how many logs there are, and what is left of 1 is told as a part of WHOLE. Of two
    hands the one with more deeds has not more marks, for else it would pay to change them: so the marks
    grow along these hands.
    """

    def __init__(self, numbers):
        order = sorted([(-number, hand) for hand, number in enumerate(numbers)])
        self.hands = [hand for _, hand in order]
        self.numbers = [numbers[hand] for hand in self.hands]
        self.falls = falls_of(self.numbers)
        self.prices = [price for price, _, _ in steps_of(1)]
        # By how much costs may be too small.
        self.slack = SLACK * sum(numbers)
        self.best = None
        self.cost = 0

    def is_worse(self, cost):
        """Whether a cost is surely above that of the best marks."""
        return self.best is not None and cost > self.cost + self.slack

    def is_better(self, cost):
        """Whether a cost is surely below that of the best marks."""
        return self.best is None or cost + self.slack < self.cost

    def by_hand(self, marks):
        """Marks along these hands as a tuple by hand."""
        return tuple([k for _, k in sorted(zip(self.hands, marks))])

    def rank(self, marks):
        """What is least for the best marks: how many logs there are, then the marks by hand."""
        powers = [to_the_power(k, number) for k, number in zip(marks, self.numbers)]
        return (product_of(powers), self.by_hand(marks))

    def offer(self, marks, cost):
        """Keeps marks if they are the best. Only if costs are too near to tell it the logs are counted."""
        if self.is_worse(cost):
            return
        if self.is_better(cost) or self.rank(marks) < self.rank(self.best):
            self.best = marks
            self.cost = cost


def next_marks(spread, begun):
    """What marks the next hand may have if they are to be the best, the least bound first: (bound, marks).

    So much is left that all others still find room.
    """
    marks, left, cost = begun
    at = len(marks)
    number = spread.numbers[at]
    others = (len(spread.numbers) - at - 1) * (WHOLE // MOST_MARKS)
    fewest = max(marks[-1] if marks else FEWEST_MARKS, fewest_within(left - others))
    middle = FEWEST_MARKS + up_to(spread.prices, spread.falls[at].price_at(left) // number)
    ways = (list(range(max(fewest, middle), MOST_MARKS + 1)), list(range(middle - 1, fewest - 1, -1)))
    rows = []
    for way in ways:
        for k in way:
            bound = cost + number * SCALES[k] + spread.falls[at + 1].cost_at(left - WHOLE // k)
            # From the middle on the bounds only grow, both ways.
            if spread.is_worse(bound):
                break
            rows.append((bound, k))
    return sorted(rows)


def fewest_within(share):
    """The fewest marks with which a hand takes at most a share."""
    return (WHOLE + share - 1) // share


def try_marks(spread, begun):
    """Offers all marks that go on with these, but those that are surely worse than others."""
    marks, left, cost = begun
    number = spread.numbers[len(marks)]
    if len(marks) == len(spread.numbers) - 1:
        last = max(marks[-1], fewest_within(left))
        spread.offer((*marks, last), cost + number * SCALES[last])
        return
    for bound, k in next_marks(spread, begun):
        if not spread.is_worse(bound):
            try_marks(spread, ((*marks, k), left - WHOLE // k, cost + number * SCALES[k]))


def least_marks(numbers):
    """By hand how many marks, so that the share is at most 1 and there are the fewest logs."""
    spread = Spread(check_numbers(numbers))
    try_marks(spread, ((), WHOLE, 0))
    return spread.by_hand(spread.best)
