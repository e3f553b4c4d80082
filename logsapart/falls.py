"""Falls: bounds of what hands cost with a share; a hand's cost is the scale of its marks for each deed."""

from logsapart.hands import MOST_MARKS
from logsapart.scales import SCALES, WHOLE

FEWEST_MARKS = 2


def steps_of(number):
    """By marks from 2 to 59 what they save a hand with so many deeds against one mark more: (price, share, saving).

    The price is the saving for a whole share. It grows with the marks: the first marks to be given up save most.
    """
    steps = []
    for k in range(FEWEST_MARKS, MOST_MARKS):
        saving = number * (SCALES[k + 1] - SCALES[k])
        steps.append((saving * k * (k + 1), WHOLE // (k * (k + 1)), saving))
    return steps


def up_to(row, value):
    """How many items of an ascending row are at most a value."""
    low = 0
    high = len(row)
    while low < high:
        middle = (low + high) // 2
        if row[middle] <= value:
            low = middle + 1
        else:
            high = middle
    return low


class Fall:
    """How the cost of some hands falls as their share grows, if a hand may also stand between two steps.

    All begin with 60 marks, and of all steps of all hands that with the greatest price comes first. As each hand's
    own prices fall on the way, no marks cost less.
    """

    def __init__(self, numbers, steps):
        self.prices = [price for price, _, _ in steps]
        self.shares = [len(numbers) * (WHOLE // MOST_MARKS)]
        self.costs = [sum(numbers) * SCALES[MOST_MARKS]]
        for _, share, saving in steps:
            self.shares.append(self.shares[-1] + share)
            self.costs.append(self.costs[-1] - saving)

    def price_at(self, share):
        """The price of the step that comes next with this share, 0 behind the last one."""
        at = up_to(self.shares, share) - 1
        return self.prices[at] if at < len(self.prices) else 0

    def cost_at(self, share):
        """What the hands cost at least, rounded down, if their share is at most this one."""
        at = up_to(self.shares, share) - 1
        if at == len(self.prices):
            return self.costs[at]
        return self.costs[at] + self.prices[at] * (self.shares[at] - share) // WHOLE


def falls_of(numbers):
    """By hand the fall of this hand and all behind it."""
    steps = []
    falls = []
    for at in range(len(numbers) - 1, -1, -1):
        steps = sorted(steps + steps_of(numbers[at]), reverse=True)
        falls.append(Fall(numbers[at:], steps))
    return falls[::-1]
