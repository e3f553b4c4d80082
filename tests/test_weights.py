"""Points 45 to 47: numbers of deeds, how many logs they have, the least marks, and tight hands."""

import random
import unittest
from fractions import Fraction
from itertools import combinations_with_replacement, product
from math import factorial, lcm, prod
from time import process_time

from logsapart.errors import Refused
from logsapart.hands import Hands
from logsapart.tight import is_tight, tight_marks
from logsapart.weights import check_numbers, least_marks, log_number, weight_bounds
from support import Raising, any_values, fraction_share, is_deep_tuple, small_hands

WRONG_NUMBERS = any_values() + [
    0, 5, (1,), [3], (1,) * 9, (0, 1), (1, 0), (401, 1), (1, 401), (1, True), (1, None), (2, -1), (1, "1"), ((1,), 2), (1, 10 ** 30),
]

# Numbers for which a search may take longer than for others: most are equal, or two are large and all others small.
ALIKE = [
    (1, 1, 1, 1, 1, 1, 1, 3), (1, 1, 3, 1, 1, 1, 1, 1), (12, 12, 36, 12, 12, 12, 12, 12),
    (119, 119, 119, 119, 119, 357, 119, 119), (1, 1, 1, 1, 1, 2, 1, 1), (5, 5, 5, 5, 5, 5, 5, 10),
    (40, 40, 40, 40, 40, 40, 80, 40), (200, 200, 200, 200, 200, 200, 200, 400),
]
LARGE_AND_SMALL = [
    (4, 4, 75, 4, 8, 4, 75, 9), (22, 22, 22, 31, 38, 65, 400, 400), (24, 400, 24, 80, 34, 374, 34, 24),
    (12, 12, 12, 17, 21, 36, 271, 271), (7, 7, 7, 7, 10, 17, 285, 285),
]


def plain_log_number(marks, numbers):
    return prod(k ** f for k, f in zip(marks, numbers))


def plain_least(numbers, most=60):
    """By trying all marks but the last ones, which are as few as can be."""
    best = None
    for marks in product(range(2, most + 1), repeat=len(numbers) - 1):
        rest = 1 - fraction_share(marks)
        if rest > 0 and -(-1 // rest) <= most:
            marks += (max(2, -(-rest.denominator // rest.numerator)),)
            found = (plain_log_number(marks, numbers), marks)
            if best is None or found < best:
                best = found
    return best[1]


# Of this the share of each hand is a whole number.
WHOLE = lcm(*range(2, 61))


def all_marks(many):
    """All rows of 2 to 60 marks with a share of at most 1."""
    return [marks for marks in product(range(2, 61), repeat=many) if sum(WHOLE // k for k in marks) <= WHOLE]


def least_of(rows, numbers):
    """Of some rows the one with the fewest logs, of several the least one."""
    powers = [[k ** f for k in range(61)] for f in numbers]
    return min((prod(power[k] for power, k in zip(powers, marks)), marks) for marks in rows)[1]


def growing_marks(numbers, most, begun=(), left=WHOLE, logs=1):
    """All rows of marks, none below the one ahead, with a share of at most 1 and at most so many logs."""
    at = len(begun)
    if at == len(numbers):
        yield begun
        return
    for k in range(begun[-1] if begun else 2, 61):
        # No hand behind has fewer marks than this one.
        if logs * k ** sum(numbers[at:]) > most:
            break
        if WHOLE // k < left or (WHOLE // k == left and at == len(numbers) - 1):
            yield from growing_marks(numbers, most, (*begun, k), left - WHOLE // k, logs * k ** numbers[at])


def near_marks(marks, steps):
    """All marks that are at most so many steps from these, with a share of at most 1."""
    ranges = [range(max(2, k - steps), min(60, k + steps) + 1) for k in marks]
    return [near for near in product(*ranges) if fraction_share(near) <= 1]


class Numbers(Raising, unittest.TestCase):
    def test_check_numbers(self):
        for numbers in ([1, 1], (400, 1, 7), [400] * 8):
            self.assertEqual(tuple(numbers), check_numbers(numbers))
            self.assertIs(tuple, type(check_numbers(numbers=numbers)))
        for value in WRONG_NUMBERS:
            for call in (check_numbers, weight_bounds, least_marks):
                self.must_raise(Refused, value, call, value)
            self.must_raise(Refused, value, log_number, Hands((2, 2)), value)

    def test_log_number(self):
        source = random.Random(60)
        for hands in small_hands(5):
            for _ in range(5):
                numbers = [source.randrange(1, 30) for _ in range(hands.many)]
                self.assertEqual(plain_log_number(hands.marks, numbers), log_number(hands, numbers))
        self.assertEqual(60 ** 3200, log_number(hands=Hands((60,) * 8), numbers=(400,) * 8))
        self.assertEqual(1, log_number(Hands((1, 1)), (400, 400)))
        for value in ((1, 1, 1), [2] * 8):
            self.must_raise(Refused, value, log_number, Hands((2, 2)), value)
        self.must_raise(Refused, (1, 1), log_number, Hands((2, 2, 2)), (1, 1))

    def test_bounds(self):
        for numbers in [*product(range(1, 5), repeat=2), *product(range(1, 4), repeat=3), (400,) * 8, (1, 400)]:
            deeds = sum(numbers)
            self.assertEqual((deeds ** deeds, prod(f ** f for f in numbers)), weight_bounds(list(numbers)))
        self.assertIs(tuple, type(weight_bounds(numbers=[1, 2])))

    def test_it_holds(self):
        equal = 0
        for hands in small_hands(6, (2, 3)):
            if fraction_share(hands.marks) <= 1:
                for numbers in product(range(1, 5), repeat=hands.many):
                    first, second = weight_bounds(numbers)
                    logs = log_number(hands, numbers)
                    just = all(k * f == sum(numbers) for k, f in zip(hands.marks, numbers))
                    self.assertGreaterEqual(logs * second, first)
                    self.assertEqual(just, logs * second == first)
                    stories = factorial(sum(numbers)) // prod(factorial(f) for f in numbers)
                    self.assertGreaterEqual(logs, stories)
                    equal += just
        self.assertGreater(equal, 3)


class LeastMarks(unittest.TestCase):
    def check(self, numbers):
        self.assertEqual(plain_least(numbers), least_marks(numbers), numbers)

    def test_two_and_three_hands_by_trying(self):
        source = random.Random(61)
        for numbers in [(1, 1), (400, 400), (1, 400), (400, 1), (3, 7), (200, 199)]:
            self.check(numbers)
        for numbers in [(3, 1, 2), (1, 1, 1), (400, 1, 1), (1, 400, 400), (2, 2, 1), (5, 5, 5)]:
            self.check(numbers)
        for top in (4, 30, 400):
            for _ in range(4):
                self.check(tuple(source.randrange(1, top + 1) for _ in range(3)))

    def test_two_hands_by_trying_all_marks(self):
        source = random.Random(64)
        rows = all_marks(2)
        many = [tuple(source.randrange(1, 401) for _ in range(2)) for _ in range(60)]
        for numbers in [*product(range(1, 11), repeat=2), *many, (400, 400), (1, 400), (400, 1), (400, 7), (13, 400)]:
            self.assertEqual(least_of(rows, numbers), least_marks(numbers), numbers)

    def test_three_hands_by_trying_all_marks(self):
        source = random.Random(65)
        rows = all_marks(3)
        many = [tuple(source.randrange(1, top + 1) for _ in range(3)) for top in (4, 20, 100, 400, 400)]
        many += [(1, 1, 1), (1, 1, 3), (2, 1, 2), (3, 1, 2), (1, 2, 4), (400, 1, 1), (1, 400, 400), (400, 20, 1), (400, 400, 400)]
        for numbers in many:
            self.assertEqual(least_of(rows, numbers), least_marks(numbers), numbers)

    def check_growing(self, numbers):
        """Holds the answer against all rows of marks that grow as the numbers of deeds fall."""
        told = least_marks(numbers)
        order = sorted(range(len(numbers)), key=lambda hand: (-numbers[hand], hand))
        self.assertLessEqual(fraction_share(told), 1)
        rows = growing_marks([numbers[hand] for hand in order], plain_log_number(told, numbers))
        placed = (tuple(marks[order.index(hand)] for hand in range(len(numbers))) for marks in rows)
        self.assertEqual(least_of(placed, numbers), told, numbers)

    def test_equal_numbers_by_trying_all_growing_marks(self):
        for many in range(2, 9):
            for number in (1, 2, 7, 60, 399, 400):
                self.check_growing((number,) * many)

    def test_equal_numbers_but_one_by_trying_all_growing_marks(self):
        for many in range(2, 9):
            for number, other in ((1, 2), (1, 3), (2, 3), (3, 2), (5, 4), (9, 1), (1, 4), (100, 350)):
                self.check_growing((number,) * (many - 1) + (other,))
                self.check_growing((number,) * (many // 2) + (other,) + (number,) * (many - 1 - many // 2))

    def test_slow_numbers_by_trying_all_growing_marks(self):
        for numbers in [*ALIKE, LARGE_AND_SMALL[0]]:
            self.check_growing(numbers)

    def test_any_numbers_by_trying_all_growing_marks(self):
        source = random.Random(66)
        for many in range(4, 9):
            for top in (2, 3, 5, 12, 100, 400):
                for _ in range(2):
                    self.check_growing([source.randrange(1, top + 1) for _ in range(many)])

    def test_no_numbers_take_long(self):
        # A few thousandths of a second each; the limit leaves room for slow machines.
        for numbers in ALIKE + LARGE_AND_SMALL:
            taken = []
            for _ in range(3):
                begun = process_time()
                least_marks(numbers)
                taken.append(process_time() - begun)
            self.assertLess(min(taken), 0.1, numbers)

    def test_four_hands_by_trying_all_tight_marks(self):
        # Least marks are tight, so it is enough to try all orders of these.
        source = random.Random(62)
        tight = list(self.tight_by_trying(4))
        for _ in range(25):
            top = source.choice((3, 10, 400))
            numbers = tuple(source.randrange(1, top + 1) for _ in range(4))
            least = least_marks(list(numbers))
            best = min(
                (plain_log_number(told, numbers), told) for marks in tight for told in self.orders(marks)
            )
            self.assertEqual(best[1], least, numbers)

    def tight_by_trying(self, many):
        for marks in combinations_with_replacement(range(2, 61), many - 1):
            rest = 1 - fraction_share(marks)
            if rest > 0:
                last = -(-rest.denominator // rest.numerator)
                if marks[-1] <= last <= 60:
                    yield (*marks, last)

    def orders(self, marks):
        if not marks:
            return [()]
        return [
            (mark, *rest) for at, mark in enumerate(marks) if mark not in marks[:at]
            for rest in self.orders(marks[:at] + marks[at + 1:])
        ]

    def test_many_hands(self):
        source = random.Random(63)
        for many in (5, 6, 7, 8):
            for top in (2, 8, 60, 400):
                for _ in range(3):
                    numbers = [source.randrange(1, top + 1) for _ in range(many)]
                    marks = least_marks(numbers)
                    self.assertLessEqual(fraction_share(marks), 1)
                    self.assertTrue(all(2 <= k <= 60 for k in marks))
                    self.assertTrue(is_tight(Hands(marks)))
                    near = min((plain_log_number(told, numbers), told) for told in near_marks(marks, 1))
                    self.assertEqual(near[1], marks)
                    # Who has more deeds has not more marks; equal numbers have marks that grow.
                    told = sorted(zip([-f for f in numbers], range(many), marks))
                    self.assertEqual(sorted(told, key=lambda row: row[2]), told)

    def test_just_the_fractions(self):
        for marks in ((2, 3, 6), (2, 4, 8, 8), (8,) * 8, (3, 3, 6, 6), (2, 6, 12, 12, 12, 12), (2, 2)):
            self.assertEqual(marks, least_marks([480 // k for k in marks]))

    def test_far_apart(self):
        self.assertEqual((2, 2), least_marks((1, 400)))
        self.assertEqual((2, *(14,) * 7), least_marks((400, *(1,) * 7)))
        self.assertEqual((14,) * 7 + (2,), least_marks(numbers=[1] * 7 + [400]))
        self.assertEqual((8,) * 8, least_marks([400] * 8))
        for numbers in ((10, 10, 10, 30, 100, 10, 400, 1), (400, 399, 200, 100, 50, 7, 2, 1), (1, 2, 4, 8, 16, 32, 64, 128)):
            marks = least_marks(numbers)
            self.assertTrue(is_tight(Hands(marks)))
            self.assertTrue(is_deep_tuple(marks))

    def test_several_are_equally_good(self):
        # For just as many deeds of each hand the same marks in any order are; the least tuple is told.
        self.assertEqual((3, 3, 3), least_marks((7, 7, 7)))
        for many, numbers in ((4, (400, 3, 3, 3)), (5, (9, 2, 9, 2, 9)), (6, (50, 50, 1, 1, 1, 1))):
            marks = least_marks(numbers)
            for one in range(many):
                for other in range(one):
                    if numbers[one] == numbers[other]:
                        self.assertLessEqual(marks[other], marks[one])

    def test_ties_between_unlike_marks(self):
        # For 14, 8, 6 and 6 deeds 2, 6, 6, 6 marks are as good as 3, 4, 4, 6: which is less depends on the order.
        for deeds in ((14, 8, 6, 6), (12, 6, 6, 6), (11, 6, 5, 4), (7, 7, 4, 4, 3), (7, 4, 2, 2, 1)):
            placed = [order for marks in tight_marks(len(deeds)) for order in self.orders(marks)]
            for numbers in self.orders(deeds)[::3]:
                logs = {marks: plain_log_number(marks, numbers) for marks in placed}
                fewest = min(logs.values())
                least = [marks for marks in placed if logs[marks] == fewest]
                self.assertGreater(len({tuple(sorted(marks)) for marks in least}), 1)
                self.assertEqual(min(least), least_marks(numbers))


class Tight(Raising, unittest.TestCase):
    def plain(self, marks):
        if fraction_share(marks) > 1:
            return False
        for at, k in enumerate(marks):
            fewer = [*marks[:at], *marks[at + 1:]]
            # With no mark a hand's share is beyond all numbers.
            if k > 1 and fraction_share(fewer) + Fraction(1, k - 1) <= 1:
                return False
        return True

    def test_is_tight(self):
        for hands in small_hands(9, (2, 3)) + small_hands(5, (4,)):
            self.assertIs(self.plain(hands.marks), is_tight(hands))
        for marks in ((2, 3, 7, 42), (2, 3, 7, 43), (8,) * 8, (60,) * 8, (1, 60), (1, 1), (2, 60), (2, 4, 8, 16, 32, 33)):
            self.assertIs(self.plain(marks), is_tight(hands=Hands(marks)))

    def test_tight_marks_by_trying(self):
        for many in (2, 3):
            tried = [marks for marks in combinations_with_replacement(range(2, 61), many) if self.plain(marks)]
            self.assertEqual(tuple(sorted(tried)), tight_marks(many))

    def test_tight_marks_by_filling_up(self):
        for many, top in ((3, 60), (4, 20)):
            filled = []
            for marks in combinations_with_replacement(range(2, top + 1), many - 1):
                if fraction_share(marks) < 1:
                    filled.extend(marks + (k,) for k in range(marks[-1], 61) if self.plain(marks + (k,)))
            self.assertEqual(tuple(filled), tuple(marks for marks in tight_marks(many=many) if marks[-2] <= top))

    def test_five_hands(self):
        told = tight_marks(5)
        self.assertEqual(list(told), sorted(set(told)))
        self.assertTrue(all(self.plain(marks) and list(marks) == sorted(marks) for marks in told))
        self.assertTrue(all(len(marks) == 5 and 2 <= marks[0] and marks[-1] <= 60 for marks in told))
        # Each row of four with a share below 1 is filled up just where the last hand has not fewer marks.
        self.assertTrue(is_deep_tuple(told))
        held = set(told)
        for marks in combinations_with_replacement(range(2, 31), 4):
            if fraction_share(marks) < 1:
                rest = 1 - fraction_share(marks)
                last = -(-rest.denominator // rest.numerator)
                self.assertEqual(marks[-1] <= last <= 60, marks + (last,) in held)

    def test_wrong_numbers_of_hands(self):
        for value in any_values() + [0, 1, 6, 10 ** 30]:
            self.must_raise(Refused, value, tight_marks, value)


if __name__ == "__main__":
    unittest.main()
