"""Points 43 and 44: knots and their signs, whether numbers go, what marks and what room are needed."""

import unittest
from collections import Counter
from fractions import Fraction
from itertools import combinations, product

from logsapart.errors import NoHand, Refused, TooGreat
from logsapart.hands import Hands
from logsapart.knots import (
    knot_sign, least_alike, least_for_hand, needed_room, numbers_exist, protocol_knots,
)
from logsapart.plans import Plan
from logsapart.protocols import Turns, deeds_from
from support import Raising, any_values, fraction_share, is_deep_tuple
from test_plans import BOX, OPEN_END, PART, STILL, one_state, plain_least, random_protocols, small_protocols


def plain_leads(protocol):
    """All pairs (state, state) with a way of moves, of no moves too, from the first to the second."""
    leads = {(state, state) for state in range(protocol.states)}
    leads |= {(ahead, behind) for ahead, _, behind in protocol.moves}
    for middle, one, other in product(range(protocol.states), repeat=3):
        if (one, middle) in leads and (middle, other) in leads:
            leads.add((one, other))
    return leads


def plain_knots(protocol):
    leads = plain_leads(protocol)
    reached = [state for state in range(protocol.states) if (protocol.start, state) in leads]
    return tuple(sorted({
        tuple(other for other in reached if (state, other) in leads and (other, state) in leads) for state in reached
    }))


def pulls(protocol, marks, knot):
    """By state of a knot, by state the pull of a weight of 1 there."""
    rows = [[Fraction(0)] * len(knot) for _ in knot]
    for ahead, hand, behind in protocol.moves:
        if ahead in knot and behind in knot:
            rows[knot.index(ahead)][knot.index(behind)] += Fraction(1, marks[hand])
    return rows


def determinant(rows):
    """By the first row and the smaller determinants."""
    if not rows:
        return Fraction(1)
    return sum(
        (-1) ** at * item * determinant([row[:at] + row[at + 1:] for row in rows[1:]]) for at, item in enumerate(rows[0]) if item
    )


def plain_sign(protocol, marks, knot):
    """1 if some states of the knot have a determinant of 1 less pulls below 0, or a part of them 0; 0 if just all have 0."""
    rows = pulls(protocol, marks, knot)
    sign = -1
    for many in range(1, len(knot) + 1):
        for part in combinations(range(len(knot)), many):
            value = determinant([[(one == other) - rows[one][other] for other in part] for one in part])
            if value < 0 or (value == 0 and many < len(knot)):
                return 1
            if value == 0:
                sign = 0
    return sign


def growth(protocol, knot):
    """About by how much pulls are greater than weights in the long run."""
    rows = [[float(item) for item in row] for row in pulls(protocol, protocol.hands.marks, knot)]
    weights = [1.0] * len(knot)
    for _ in range(3000):
        weights = [own + sum(item * other for item, other in zip(row, weights)) for own, row in zip(weights, rows)]
        total = sum(weights)
        weights = [weight / total for weight in weights]
    return total_of(weights, rows) / sum(weights)


def total_of(weights, rows):
    return sum(sum(item * other for item, other in zip(row, weights)) for row in rows)


def plain_exist(protocol, marks):
    for knot in plain_knots(protocol):
        sign = plain_sign(protocol, marks, knot)
        entered = any(
            ahead in protocol.reached and ahead not in knot and behind in knot for ahead, _, behind in protocol.moves
        )
        if sign == 1 or (sign == 0 and entered):
            return False
    return True


RING = ((0, 0, 1), (0, 0, 1), (1, 1, 2), (2, 2, 0))
AT_ONE = [
    Turns(Hands((2, 1, 1)), 3, RING), Turns(Hands((2, 2)), 3, [(s, h, (s + 1) % 3) for s in range(3) for h in (0, 1)]),
    Turns(Hands((2, 3, 6)), 2, [(s, h, (s + h) % 2) for s in range(2) for h in range(3)]),
    Turns(Hands((4, 2)), 4, [(0, 0, 0), (0, 0, 1), (1, 1, 0), (1, 1, 0), (1, 0, 1), (2, 0, 3), (3, 0, 3)], 2),
]


def protocols():
    return AT_ONE + small_protocols() + random_protocols(20, 150, (1, 2, 3, 5, 60), 5, 12)


class Knots(Raising, unittest.TestCase):
    def test_by_all_ways_between_states(self):
        sizes = set()
        for protocol in protocols() + random_protocols(21, 100, (2,), 8, 14):
            knots = protocol_knots(protocol)
            self.assertEqual(plain_knots(protocol), knots)
            self.assertTrue(is_deep_tuple(knots))
            self.assertEqual(protocol.reached, tuple(sorted(sum(knots, ()))))
            sizes.update(map(len, knots))
        self.assertTrue({1, 2, 3, 4, 5} <= sizes)
        # A state that is not reached is in no knot; one without moves is a knot of its own.
        self.assertEqual(((0, 1),), protocol_knots(PART))
        self.assertEqual(((1,),), protocol_knots(STILL))
        self.assertEqual(((0,), (1,)), protocol_knots(protocol=OPEN_END))

    def test_signs(self):
        signs = []
        for protocol in protocols():
            for knot in protocol_knots(protocol):
                sign = knot_sign(protocol, list(knot))
                self.assertEqual(plain_sign(protocol, protocol.hands.marks, knot), sign)
                about = growth(protocol, knot)
                if abs(about - 1) > 0.01:
                    self.assertEqual(1 if about > 1 else -1, sign)
                signs.append((sign, len(knot)))
        for sign in (-1, 0, 1):
            self.assertTrue({1, 2, 3} <= {size for told, size in signs if told == sign}, sign)

    def test_signs_by_small_weights(self):
        found = 0
        for protocol in protocols():
            for knot in protocol_knots(protocol):
                if len(knot) <= 3:
                    rows = pulls(protocol, protocol.hands.marks, knot)
                    for weights in product(range(6), repeat=len(knot)):
                        told = [sum(item * other for item, other in zip(row, weights)) for row in rows]
                        enough = all(pull >= weight for pull, weight in zip(told, weights))
                        if enough and any(pull > weight for pull, weight in zip(told, weights)):
                            self.assertEqual(1, knot_sign(protocol, knot))
                            found += 1
                        elif any(weights) and tuple(told) == weights:
                            self.assertGreaterEqual(knot_sign(protocol, knot), 0)
                            found += 1
        self.assertGreater(found, 100)

    def test_below_at_and_above_1(self):
        for marks in ((2, 2), (2, 3), (3, 3), (2, 3, 6), (2, 3, 7), (2, 3, 5), (1, 1)):
            share = fraction_share(marks)
            self.assertEqual((share > 1) - (share < 1), knot_sign(one_state(marks), (0,)))
        # A ring of states pulls as the product of what its moves pull.
        for marks, sign in (((1, 2, 1), 0), ((1, 3, 1), -1), ((1, 1, 1), 1), ((2, 1, 1), 0), ((2, 1, 2), -1)):
            self.assertEqual(sign, knot_sign(Turns(Hands(marks), 3, RING), (0, 1, 2)))
        self.assertEqual(-1, knot_sign(STILL, (1,)))

    def test_values_that_are_no_knots(self):
        for value in any_values():
            if value not in ((0,),):
                self.must_raise(Refused, value, knot_sign, BOX, value)
        for value in ((0,), (1,), (1, 0), (0, 1, 1), (0, 0), (0, 2), (False, True), [0, 1, 2], 0):
            self.must_raise(Refused, value, knot_sign, BOX, value)
        for value in ((2,), (0, 1, 2), (0,)):
            self.must_raise(Refused, value, knot_sign, PART, value)
        self.assertEqual(-1, knot_sign(protocol=BOX, knot=[0, 1]))

    def test_great_marks(self):
        moves = [(state, hand, (state + 1) % 8) for state in range(8) for hand in range(3)]
        for marks, sign in (((59, 53, 2), -1), ((2, 3, 6), 0), ((2, 3, 5), 1), ((60, 59, 58), -1)):
            protocol = Turns(Hands((*marks, 47, 43, 41, 37, 31)), 8, moves)
            self.assertEqual(sign, knot_sign(protocol, range_of(8)))


def range_of(many):
    return tuple(range(many))


class NumbersExist(unittest.TestCase):
    def test_by_knots_and_by_counting_up(self):
        both = set()
        for protocol in protocols():
            exist = numbers_exist(protocol)
            self.assertIs(plain_exist(protocol, protocol.hands.marks), exist)
            self.assertEqual(exist, plain_least(protocol, 2000 if exist else 300) is not None)
            both.add(exist)
        self.assertEqual({True, False}, both)

    def test_a_knot_at_1_and_moves_into_it(self):
        hands = Hands((2, 2, 1))
        at = [(1, 0, 1), (1, 1, 1)]
        # Nothing leads into it but from itself; then a move from outside; then one from a state not reached.
        self.assertTrue(numbers_exist(Turns(hands, 3, at, 1)))
        self.assertFalse(numbers_exist(Turns(hands, 3, at + [(0, 2, 1)], 0)))
        self.assertTrue(numbers_exist(Turns(hands, 3, at + [(0, 2, 1)], 1)))
        self.assertTrue(numbers_exist(protocol=Turns(hands, 3, at + [(1, 2, 2)], 1)))
        # Behind it, of a knot below 1, numbers go too.
        self.assertEqual((0, 2, 4), Plan(Turns(hands, 3, at + [(1, 2, 2), (2, 0, 2)], 1)).numbers)


class Marks(Raising, unittest.TestCase):
    def test_alike_by_trying(self):
        found = set()
        for protocol in protocols():
            marks = 1
            while not plain_exist(protocol, (marks,) * protocol.hands.many):
                marks += 1
            self.assertEqual(marks, least_alike(protocol))
            found.add(marks)
        self.assertTrue({1, 2, 3, 4, 24} <= found)
        self.assertEqual(1, least_alike(protocol=STILL))

    def test_for_one_hand_by_trying(self):
        found = set()
        for protocol in protocols():
            for hand in range(protocol.hands.many):
                told = least_for_hand(protocol, hand)
                marks = list(protocol.hands.marks)
                if told is None:
                    marks[hand] = 10 ** 12
                    self.assertFalse(plain_exist(protocol, marks))
                else:
                    for number in range(1, min(told, 70)):
                        marks[hand] = number
                        self.assertFalse(plain_exist(protocol, marks))
                    for number in (told, told + 1, 10 * told):
                        marks[hand] = number
                        self.assertTrue(plain_exist(protocol, marks))
                    if told <= 60:
                        marks[hand] = told
                        self.assertTrue(numbers_exist(Turns(Hands(marks), protocol.states, protocol.moves, protocol.start)))
                found.add(told if told in (None, 1, 2, 3) else told > 60)
        self.assertTrue({None, 1, 2, 3, False} <= found)

    def test_more_than_60(self):
        self.assertEqual(1806, least_for_hand(one_state((2, 3, 7, 43, 5)), 4))
        # Two rounds of 59 / 60 and just 1: the marks come to the square of what one round lacks.
        protocol = Turns(Hands((2, 3, 7, 43, 1)), 2, [(0, 0, 1), (0, 1, 1), (0, 2, 1), (0, 3, 1), (1, 4, 0), (1, 4, 0)])
        self.assertEqual(2, least_for_hand(protocol, 4))
        far = [(0, hand, 1) for hand in range(4)] + [(1, hand, 0) for hand in range(4)] + [(1, 4, 0)]
        told = least_for_hand(Turns(Hands((2, 3, 7, 43, 1)), 2, far), 4)
        # (1805 / 1806) (1805 / 1806 + 1 / m) = 1 if m is 1806 * 1805 / 3611.
        self.assertEqual(-(-1806 * 1805 // 3611), told)

    def test_none_is_enough(self):
        self.assertEqual([None, None, None], [least_for_hand(one_state((2, 2, 3)), 2), *[
            least_for_hand(one_state((2, 2, 2, 3)), hand) for hand in (0, 3)
        ]])
        self.assertEqual([None, 2, None], [least_for_hand(OPEN_END, hand) for hand in range(3)])
        # The hand's moves lead into a knot at 1, but do not lie in it.
        protocol = Turns(Hands((2, 2, 5)), 2, [(0, 2, 1), (1, 0, 1), (1, 1, 1)])
        self.assertIsNone(least_for_hand(protocol, 2))
        self.assertEqual(3, least_for_hand(protocol=protocol, hand=0))
        # A hand that does nothing: one mark, if numbers go.
        self.assertEqual((1, None), (least_for_hand(Turns(Hands((2, 2, 9)), 1, [(0, 0, 0), (0, 1, 0)]), 2),
                                     least_for_hand(Turns(Hands((2, 1, 9)), 1, [(0, 0, 0), (0, 1, 0)]), 2)))

    def test_wrong_hands(self):
        for value in any_values() + [2, 10 ** 30]:
            self.must_raise(NoHand, value, least_for_hand, BOX, value)


def plain_room(protocol, length):
    """By all runs, one after another."""
    runs = [((), protocol.start)]
    for _ in range(length):
        runs = [
            ((*hands, protocol.moves[deed][1]), protocol.moves[deed][2])
            for hands, state in runs for deed in deeds_from(protocol, state)
        ]
    many = Counter((state, tuple(hands.count(hand) for hand in range(protocol.hands.many))) for hands, state in runs)
    rooms = {}
    for (state, counts), number in many.items():
        logs = 1
        for marks, count in zip(protocol.hands.marks, counts):
            logs *= marks ** count
        rooms[(state, counts)] = -(-number // logs)
    if not rooms:
        return None
    greatest = max(rooms.values())
    return (greatest, *min(told for told, room in rooms.items() if room == greatest))


def widest(protocol, length):
    """The most unlike pairs (state, counts) behind runs of one length up to this one."""
    pairs = {(protocol.start, (0,) * protocol.hands.many)}
    most = 1
    for _ in range(length):
        behind = set()
        for state, counts in pairs:
            for deed in deeds_from(protocol, state):
                _, hand, after = protocol.moves[deed]
                behind.add((after, counts[:hand] + (counts[hand] + 1,) + counts[hand + 1:]))
        pairs = behind
        most = max(most, len(pairs))
    return most


class Rooms(Raising, unittest.TestCase):
    def test_by_all_runs(self):
        above = 0
        for protocol in small_protocols()[:60]:
            for length in range(5):
                if len(protocol.moves) ** length < 5000:
                    told = needed_room(protocol, length)
                    self.assertEqual(plain_room(protocol, length), told)
                    above += told is not None and told[0] > 1
                    if told is not None and numbers_exist(protocol):
                        self.assertLessEqual(told[0], Plan(protocol).numbers[told[1]])
        self.assertGreater(above, 20)

    def test_no_runs_so_long(self):
        self.assertIsNone(needed_room(STILL, 1))
        self.assertEqual((1, 1, (0, 0)), needed_room(STILL, 0))
        self.assertIsNone(needed_room(STILL, 400, most=1))
        chain = Turns(Hands((1, 1)), 3, [(0, 0, 1), (0, 1, 1), (1, 0, 2)])
        self.assertEqual((1, 2, (1, 1)), needed_room(protocol=chain, length=2))
        self.assertIsNone(needed_room(chain, 3))

    def test_most(self):
        for protocol in small_protocols()[:40]:
            for length in (0, 3, 6):
                most = widest(protocol, length)
                told = needed_room(protocol, length, most=most)
                self.assertEqual(told, needed_room(protocol, length))
                if most > 1:
                    try:
                        self.assertEqual(told, needed_room(protocol, length, most=most - 1))
                    except TooGreat as error:
                        self.assertEqual(most - 1, error.most)
        wide = one_state((2,) * 8)
        self.must_raise(TooGreat, 20000, needed_room, wide, 400)

    def test_to_the_limits(self):
        told = needed_room(one_state((2, 2)), 400)
        self.assertEqual((1, 0), told[:2])
        told = needed_room(one_state((1, 1)), 400)
        self.assertEqual((0, (200, 200)), told[1:])
        ring = Turns(Hands((2, 2)), 8, [(state, hand, (state + 1) % 8) for state in range(8) for hand in (0, 1)])
        self.assertEqual((1, 0, (0, 400)), needed_room(ring, 400))
        self.assertEqual((1, 0, (0, 0, 197)), needed_room(one_state((3, 3, 3)), 197))
        self.assertEqual(24 ** 400, needed_room(Turns(Hands((1, 2)), 1, [(0, 0, 0)] * 24), 400)[0])

    def test_above_1_rooms_grow(self):
        rooms = [needed_room(one_state((2, 2, 3)), length)[0] for length in (9, 30, 60, 90)]
        self.assertEqual(sorted(rooms), rooms)
        self.assertEqual(2, rooms[0])
        self.assertGreater(rooms[-1], 1000)

    def test_wrong_lengths(self):
        for value in any_values() + [401, 10 ** 30]:
            self.must_raise(Refused, value, needed_room, BOX, value)
            self.must_raise(Refused, value, needed_room, BOX, value, most=1)


if __name__ == "__main__":
    unittest.main()
