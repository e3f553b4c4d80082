"""Bounds under point 46: scales, shares as whole numbers, and how costs fall as shares grow."""

import random
import unittest
from decimal import Decimal, localcontext
from itertools import product
from math import lcm

from logsapart.falls import falls_of, steps_of, up_to
from logsapart.scales import SCALES, SLACK, WHOLE


def cost_of(marks, numbers):
    return sum(SCALES[k] * f for k, f in zip(marks, numbers))


def share_of(marks):
    return sum(WHOLE // k for k in marks)


class Scales(unittest.TestCase):
    def test_scales_are_logarithms(self):
        self.assertEqual(61, len(SCALES))
        with localcontext() as context:
            context.prec = 60
            unit = 2 ** 32 / Decimal(2).ln()
            for k in range(1, 61):
                lack = Decimal(k).ln() * unit - SCALES[k]
                # Those of the powers of 2 are whole, and are told just so.
                if k in (1, 2, 4, 8, 16, 32):
                    self.assertLess(abs(lack), Decimal(10) ** -40, k)
                else:
                    self.assertTrue(0 < lack < SLACK, k)

    def test_shares_are_whole(self):
        self.assertEqual(lcm(*range(1, 61)), WHOLE)


class Falls(unittest.TestCase):
    def test_prices_grow_with_the_marks(self):
        for number in (1, 2, 399, 400):
            steps = steps_of(number)
            self.assertEqual(58, len(steps))
            self.assertTrue(all(one[0] < other[0] for one, other in zip(steps, steps[1:])))
            for k, (price, share, saving) in enumerate(steps, 2):
                self.assertEqual(share_of((k,)) - share_of((k + 1,)), share)
                self.assertEqual(cost_of((k + 1,), (number,)) - cost_of((k,), (number,)), saving)
                self.assertEqual(price * share, saving * WHOLE)

    def test_up_to(self):
        for row in ([], [3], [1, 1, 2, 5], list(range(0, 40, 3))):
            for value in range(-1, 45):
                self.assertEqual(sum(item <= value for item in row), up_to(row, value))

    def test_one_hand_costs_what_its_marks_cost(self):
        for number in (1, 7, 400):
            (fall,) = falls_of([number])
            for k in range(2, 61):
                self.assertEqual(cost_of((k,), (number,)), fall.cost_at(WHOLE // k))
                if k > 2:
                    # Just below the share of the step it is the line that lies above.
                    between = fall.cost_at((WHOLE // k + WHOLE // (k - 1)) // 2)
                    self.assertTrue(SCALES[k - 1] * number < between < SCALES[k] * number)
            self.assertEqual(number * SCALES[2], fall.cost_at(WHOLE))
            self.assertEqual(0, fall.price_at(WHOLE // 2))

    def test_no_marks_cost_less(self):
        for numbers in ((3, 1), (1, 1), (400, 7)):
            fall = falls_of(numbers)[0]
            for marks in product(range(2, 61), repeat=2):
                self.assertLessEqual(fall.cost_at(share_of(marks)), cost_of(marks, numbers))
        source = random.Random(67)
        for many in range(3, 9):
            numbers = sorted((source.randrange(1, 401) for _ in range(many)), reverse=True)
            for at, fall in enumerate(falls_of(numbers)):
                for _ in range(100):
                    marks = [source.randrange(2, source.choice((5, 20, 61))) for _ in numbers[at:]]
                    self.assertLessEqual(fall.cost_at(share_of(marks)), cost_of(marks, numbers[at:]))

    def test_more_share_never_costs_more(self):
        for numbers in ([5, 5, 5, 2], [400, 30, 1], [1] * 8):
            fall = falls_of(numbers)[0]
            told = [fall.cost_at(share) for share in range(fall.shares[0], WHOLE + 1, WHOLE // 997)]
            self.assertEqual(sorted(told, reverse=True), told)
            prices = [fall.price_at(share) for share in range(fall.shares[0], WHOLE + 1, WHOLE // 997)]
            self.assertEqual(sorted(prices, reverse=True), prices)


if __name__ == "__main__":
    unittest.main()
