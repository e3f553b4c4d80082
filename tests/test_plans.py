"""Points 40 to 43: numbers that go, plans, runs by them, desks that undo, and papers for protocols."""

import random
import unittest
from fractions import Fraction
from itertools import product
from math import lcm

from logsapart.digits import Digits, digit_logs, least_number
from logsapart.errors import BadLogs, BadStory, Refused, TooGreat
from logsapart.hands import Hands
from logsapart.knots import numbers_exist
from logsapart.plans import (
    Plan, PlanDesk, fitting_standings, hand_at, move_back, move_on, protocol_holds, protocol_paper, run_back, run_logs,
)
from logsapart.protocols import Turns, deeds_from, run_story
from support import Raising, any_values, fraction_share, is_deep_tuple, not_of_length, small_hands, told, raised

BOX = Turns(Hands((2, 3)), 2, [(0, 0, 1), (0, 1, 1), (1, 1, 0), (1, 1, 0)])
OPEN_END = Turns(Hands((1, 1, 1)), 2, [(0, 0, 0), (0, 2, 1), (1, 1, 1)])
# State 2 is not reached; from it moves lead into the others.
PART = Turns(Hands((2, 2)), 3, [(0, 0, 1), (1, 1, 0), (2, 0, 0), (2, 1, 2)])
STILL = Turns(Hands((1, 60)), 3, [(0, 0, 2)], 1)


def one_state(marks):
    """A protocol with one state and one move a hand."""
    return Turns(Hands(marks), 1, [(0, hand, 0) for hand in range(len(marks))])


def random_protocols(seed, many, marks=(1, 2, 3, 4), states=4, moves=9):
    source = random.Random(seed)
    told = []
    for _ in range(many):
        count = source.randrange(1, states + 1)
        hands = Hands([source.choice(marks) for _ in range(source.randrange(2, 5))])
        rows = [
            (source.randrange(count), source.randrange(hands.many), source.randrange(count))
            for _ in range(source.randrange(moves + 1))
        ]
        told.append(Turns(hands, count, rows, source.randrange(count)))
    return told


def small_protocols():
    return [BOX, OPEN_END, PART, STILL, one_state((2, 3, 6)), one_state((2, 2)), one_state((3, 3)), one_state((2, 2, 3)),
            Turns(Hands((1, 1)), 1, ()), Turns(Hands((24, 2)), 1, [(0, 0, 0)] * 24),
            Turns(Hands((3, 5)), 2, [(0, 0, 1), (0, 0, 1), (1, 1, 0)])] + random_protocols(7, 120)


def plain_needs(protocol, numbers, state):
    needs = 0
    for hand, marks in enumerate(protocol.hands.marks):
        whole = sum(numbers[ahead] for ahead, mover, behind in protocol.moves if (mover, behind) == (hand, state))
        needs += -(-whole // marks)
    return needs


def plain_goes(protocol, numbers):
    for state, number in enumerate(numbers):
        if (number > 0) != (state in protocol.reached) or plain_needs(protocol, numbers, state) > number:
            return False
    return True


def plain_least(protocol, most):
    """The least numbers that go, each state counting up from 1 as long as it lacks room; None if one passes most."""
    numbers = [1 if state in protocol.reached else 0 for state in range(protocol.states)]
    while max(numbers) <= most:
        lacking = [state for state in range(protocol.states) if plain_needs(protocol, numbers, state) > numbers[state]]
        if not lacking:
            return tuple(numbers)
        numbers[lacking[-1]] += 1
    return None


def plans():
    """Plans of the least numbers and of others; in some of them standings are in no stretch."""
    told = [Plan(BOX, (4, 5)), Plan(BOX, (2, 3)), Plan(one_state((2, 4)), (11,)), Plan(PART, (3, 2, 0))]
    source = random.Random(8)
    for protocol in small_protocols():
        if numbers_exist(protocol):
            least = plain_least(protocol, 2000)
            told.append(Plan(protocol))
            for _ in range(3):
                numbers = tuple(number + source.randrange(4) * (number > 0) for number in least)
                if plain_goes(protocol, numbers):
                    told.append(Plan(protocol, numbers))
    return [plan for plan in told if max(plan.numbers) < 200]


def standings(plan):
    return [(state, number) for state, most in enumerate(plan.numbers) for number in range(most)]


def plain_move(plan, state, number, deed):
    """By point 40: stretches and parts by adding up."""
    moves, numbers, marks = plan.protocol.moves, plan.numbers, plan.protocol.hands.marks
    ahead, hand, behind = moves[deed]
    assert ahead == state
    whole = number
    for earlier in range(deed):
        if moves[earlier][1:] == (hand, behind):
            whole += numbers[moves[earlier][0]]
    first = 0
    for other in range(hand):
        wholes = sum(numbers[a] for a, h, b in moves if (h, b) == (other, behind))
        first += -(-wholes // marks[other])
    return behind, first + whole // marks[hand], whole % marks[hand]


def all_runs(protocol, length):
    runs = [()]
    for _ in range(length):
        runs = [(*run, deed) for run in runs for deed in deeds_from(protocol, run_story(protocol, run)[1])]
    return runs


def random_run(source, protocol, length):
    run, state = [], protocol.start
    for _ in range(length):
        deeds = deeds_from(protocol, state)
        if not deeds:
            break
        run.append(source.choice(deeds))
        state = protocol.moves[run[-1]][2]
    return tuple(run)


class NumbersThatGo(Raising, unittest.TestCase):
    def test_least_by_counting_up(self):
        found = 0
        for protocol in small_protocols():
            if not numbers_exist(protocol):
                self.assertIsNone(plain_least(protocol, 300))
                self.must_raise(Refused, protocol, Plan, protocol)
                continue
            least = plain_least(protocol, 2000)
            found += 1
            self.assertEqual(least, Plan(protocol).numbers)
            self.assertEqual(("numbers", least), protocol_paper(protocol))
            self.assertEqual(("numbers", least), protocol_paper(protocol, most=max(least)))
            if max(least) > 1:
                self.must_raise(TooGreat, max(least) - 1, protocol_paper, protocol, most=max(least) - 1)
        self.assertGreater(found, 40)

    def test_nothing_less_goes(self):
        for protocol in small_protocols():
            if numbers_exist(protocol) and max(plain_least(protocol, 2000)) <= 6:
                least = plain_least(protocol, 2000)
                for numbers in product(*[range(number + 1) for number in least]):
                    goes = plain_goes(protocol, numbers)
                    self.assertEqual(numbers == least, goes)
                    self.assertEqual(goes, raised(Plan, protocol, numbers) is None)

    def test_one_state_is_a_digit(self):
        for hands in small_hands(5, (2, 3)):
            protocol = one_state(hands.marks)
            self.assertEqual(fraction_share(hands.marks) <= 1, numbers_exist(protocol))
            if numbers_exist(protocol):
                number = least_number(hands)
                self.assertEqual((number,), Plan(protocol).numbers)
                for story in product(range(hands.many), repeat=3):
                    self.assertEqual((0, *digit_logs(Digits(hands), story)), run_logs(Plan(protocol), story))

    def test_none_and_other_numbers(self):
        self.assertEqual((2, 2), Plan(BOX).numbers)
        self.assertEqual((2, 2), Plan(protocol=BOX, numbers=[2, 2]).numbers)
        self.assertIs(tuple, type(Plan(BOX, [4, 5]).numbers))
        wrong = [value for value in any_values() if value is not None] + [
            (1, 2), (2, 1), (0, 0), (2, 0), (2,), (2, 2, 2), (True, 2), (2, None), (2, -2), 2,
        ]
        for value in wrong:
            self.must_raise(Refused, value, Plan, BOX, value)
        # A state that is not reached has no numbers.
        self.assertEqual((1, 1, 0), Plan(PART).numbers)
        self.must_raise(Refused, (2, 2, 1), Plan, PART, (2, 2, 1))
        self.assertEqual((0, 1, 0), Plan(STILL).numbers)
        self.must_raise(Refused, (1, 1, 0), Plan, STILL, (1, 1, 0))
        self.must_raise(Refused, OPEN_END, Plan, OPEN_END)
        for numbers in product(range(30), repeat=2):
            self.must_raise(Refused, numbers, Plan, OPEN_END, numbers)

    def test_up_to_2000_and_above(self):
        # Each state of the chain has twice as many as the one ahead of it; the last one takes a little more.
        double = [(state, hand, state + 1) for state in range(7) for hand in (0, 1)]
        for marks, rows, least in (
            ((1, 1), [], 128), ((1, 1, 2), [(7, 2, 7)], 256), ((1, 1, 16), [(7, 2, 7)] * 15, 2048),
        ):
            protocol = Turns(Hands(marks), 8, double + rows[:24 - len(double)])
            told = plain_least(protocol, 10 ** 6)
            self.assertEqual(("numbers", told), protocol_paper(protocol, most=20000))
            if max(told) > 2000:
                self.must_raise(TooGreat, 2000, Plan, protocol)
                self.must_raise(TooGreat, 2000, protocol_paper, protocol)
            else:
                self.assertEqual(told, Plan(protocol).numbers)
        for marks in ((2, 3, 7, 43), (2, 3, 7, 43, 48, 43), (2, 3, 11, 14, 60)):
            protocol = one_state(marks)
            least = least_number(Hands(marks))
            if least is None:
                self.must_raise(Refused, protocol, Plan, protocol)
            elif least > 2000:
                self.must_raise(TooGreat, 2000, Plan, protocol)
            else:
                self.assertEqual((least,), Plan(protocol).numbers)

    def test_the_limit_of_2000_itself(self):
        # Each state has as many as the one ahead of it for each move: 1, 5, 25, 125, 500, 2000.
        rows = [[(0, 0, 1)] * 5, [(1, 0, 2)] * 5, [(2, 1, 3)] * 5, [(3, 1, 4)] * 4, [(4, 0, 5)] * 4]
        hands = Hands((1, 1, 1))
        just = Turns(hands, 6, sum(rows, []))
        self.assertEqual((1, 5, 25, 125, 500, 2000), Plan(just).numbers)
        more = Turns(hands, 6, sum(rows, []) + [(0, 2, 5)])
        self.must_raise(TooGreat, 2000, Plan, more)
        self.must_raise(TooGreat, 2000, protocol_paper, more)
        self.assertEqual(("numbers", (1, 5, 25, 125, 500, 2001)), protocol_paper(more, most=2001))
        self.assertEqual((1, 5, 25, 125, 500, 2001), Plan(more, (1, 5, 25, 125, 500, 2001)).numbers)

    def test_a_share_of_just_1(self):
        # There the least number is the common multiple of the marks.
        for marks in product((2, 3, 4, 5, 6, 8, 10, 16, 20, 40), repeat=4):
            if fraction_share(marks) == 1:
                self.assertEqual((lcm(*marks),), Plan(one_state(marks)).numbers)


class Plans(Raising, unittest.TestCase):
    def test_equality(self):
        same = Turns(Hands([2, 3]), 2, [list(move) for move in BOX.moves])
        self.assertTrue(Plan(BOX) == Plan(same, [2, 2]))
        self.assertFalse(Plan(BOX) != Plan(same))
        self.assertFalse(Plan(BOX) == Plan(BOX, (2, 3)))
        self.assertFalse(Plan(BOX) == Plan(Turns(Hands((2, 4)), 2, BOX.moves), (2, 2)))
        for value in any_values() + [BOX, (2, 2)]:
            self.assertFalse(Plan(BOX) == value)

    def test_stretches_by_adding_up(self):
        for plan in plans():
            self.assertTrue(is_deep_tuple(plan.stretches) and is_deep_tuple(plan.numbers))
            self.assertEqual(plan.protocol.states, len(plan.stretches))
            for state, row in enumerate(plan.stretches):
                behind = 0
                for hand, marks in enumerate(plan.protocol.hands.marks):
                    whole = sum(plan.numbers[a] for a, h, b in plan.protocol.moves if (h, b) == (hand, state))
                    self.assertEqual((behind, behind - (-whole // marks)), row[hand])
                    behind = row[hand][1]
                self.assertLessEqual(behind, plan.numbers[state])

    def test_each_deed_from_each_standing_and_back(self):
        for plan in plans():
            came = {}
            for state, number in standings(plan):
                for deed in deeds_from(plan.protocol, state):
                    behind, now, mark = move_on(plan, state, number, deed)
                    self.assertEqual(plain_move(plan, state, number, deed), (behind, now, mark))
                    self.assertLess(now, plan.numbers[behind])
                    self.assertEqual(plan.protocol.moves[deed][1], hand_at(plan, behind, now))
                    self.assertEqual((deed, state, number), move_back(plan, behind, now, mark))
                    # No two deeds come to one standing with one mark.
                    self.assertNotIn((behind, now, mark), came)
                    came[(behind, now, mark)] = (deed, state, number)
            self.check_all_backs(plan, came)

    def check_all_backs(self, plan, came):
        for state, number in standings(plan):
            hand = hand_at(plan, state, number)
            if hand is None:
                self.must_raise(Refused, number, move_back, plan, state, number, 0)
                self.must_raise(Refused, number, move_back, plan, state, number, None)
                continue
            for mark in range(plan.protocol.hands.marks[hand]):
                if (state, number, mark) in came:
                    self.assertEqual(came[(state, number, mark)], move_back(plan, state, number, mark))
                else:
                    self.must_raise(Refused, mark, move_back, plan, state, number, mark)

    def test_least_numbers_are_all_come_to(self):
        for protocol in small_protocols():
            if numbers_exist(protocol):
                plan = Plan(protocol)
                known, waiting = {(protocol.start, 0)}, [(protocol.start, 0)]
                while waiting:
                    state, number = waiting.pop()
                    for deed in deeds_from(protocol, state):
                        behind = move_on(plan, state, number, deed)[:2]
                        if behind not in known:
                            known.add(behind)
                            waiting.append(behind)
                self.assertEqual(set(standings(plan)), known)

    def test_great_numbers(self):
        source = random.Random(9)
        for protocol in (BOX, one_state((2, 3, 6)), PART, Turns(Hands((60, 60)), 8, [(s, s % 2, (s + 1) % 8) for s in range(8)])):
            numbers = tuple(999999996 if state in protocol.reached else 0 for state in range(protocol.states))
            plan = Plan(protocol, numbers)
            for _ in range(200):
                state = source.choice(protocol.reached)
                number = source.randrange(numbers[state])
                deed = source.choice(deeds_from(protocol, state))
                behind, now, mark = move_on(plan, state, number, deed)
                self.assertEqual(plain_move(plan, state, number, deed), (behind, now, mark))
                self.assertEqual((deed, state, number), move_back(plan, behind, now, mark))
            run = random_run(source, protocol, 400)
            state, number, logs = run_logs(plan, run, 999999995)
            self.assertEqual((run, protocol.start, 999999995), run_back(plan, state, number, logs))

    def test_wrong_standings(self):
        plan = Plan(PART, (2, 3, 0))
        calls = ((move_on, None), (hand_at,), (move_back, None), (run_back, None))
        for call, *rest in calls:
            for value in any_values() + [3, 10 ** 30]:
                self.must_raise(Refused, value, call, plan, value, None, *rest)
            for value in any_values() + [2, 3, 10 ** 30]:
                self.must_raise(Refused, value, call, plan, 0, value, *rest)
            # No number is below 0, that of a state that is not reached.
            for value in any_values() + [0, 1]:
                self.must_raise(Refused, value, call, plan, 2, value, *rest)
        self.assertEqual(1, hand_at(plan=plan, state=0, number=0))

    def test_wrong_deeds_and_marks(self):
        plan = Plan(BOX)
        for value in any_values() + [2, 3, 4, 10 ** 30]:
            self.must_raise(Refused, value, move_on, plan, 0, 1, value)
        self.assertEqual((1, 0, 1), move_on(plan=plan, state=0, number=1, deed=0))
        for value in any_values() + [3, 10 ** 30]:
            self.must_raise(Refused, value, move_back, plan, 0, 1, value)
        self.assertEqual((3, 1, 1), move_back(plan=plan, state=0, number=1, mark=0))
        self.must_raise(Refused, 1, move_back, plan, 0, 1, 1)
        # Standing (1, 1) of these numbers is hand 1's; (1, 2) is in no stretch.
        wide = Plan(BOX, (2, 3))
        self.assertEqual((1, None), (hand_at(wide, 1, 1), hand_at(wide, 1, 2)))
        for value in any_values() + [0, 1, 2]:
            self.must_raise(Refused, 2, move_back, wide, 1, 2, value)


def plain_logs(plan, run, number):
    logs = [[] for _ in plan.protocol.hands.marks]
    state = plan.protocol.start
    for deed in run:
        hand = plan.protocol.moves[deed][1]
        state, number, mark = plain_move(plan, state, number, deed)
        logs[hand].append(mark)
    return state, number, tuple(map(tuple, logs))


def plain_back(plan, state, number, logs):
    rows = [list(log) for log in logs]
    deeds = ()
    while any(rows):
        hand = hand_at(plan, state, number)
        if hand is None or not rows[hand]:
            break
        try:
            deed, state, number = move_back(plan, state, number, rows[hand].pop())
        except Refused:
            break
        deeds = (deed, *deeds)
    return deeds, state, number


class RunsAndLogs(Raising, unittest.TestCase):
    def test_laid_down_and_read_back(self):
        for plan in plans():
            start = plan.protocol.start
            for run in all_runs(plan.protocol, 3)[:60]:
                for number in {0, plan.numbers[start] - 1, plan.numbers[start] // 2}:
                    state, now, logs = run_logs(plan, list(run), number)
                    self.assertEqual(plain_logs(plan, run, number), (state, now, logs))
                    self.assertTrue(is_deep_tuple(logs))
                    self.assertEqual((run, start, number), run_back(plan, state, now, [list(log) for log in logs]))

    def test_logs_without_beginnings(self):
        source = random.Random(10)
        lengths = set()
        for plan in plans():
            run = random_run(source, plan.protocol, 30)
            state, now, logs = run_logs(plan, run)
            for _ in range(6):
                kept = [log[source.randrange(len(log) + 1):] for log in logs]
                told = run_back(plan, state, now, kept)
                self.assertEqual(plain_back(plan, state, now, kept), told)
                # Just behind the last deed whose entry is gone, if not all told are back.
                deeds = told[0]
                self.assertEqual(run[len(run) - len(deeds):], deeds)
                ahead = run[:len(run) - len(deeds)]
                self.assertEqual(run_logs(plan, ahead)[:2], told[1:])
                used = [deed for deed in run[len(ahead):]]
                if ahead:
                    hand = plan.protocol.moves[ahead[-1]][1]
                    self.assertEqual(len(kept[hand]), sum(plan.protocol.moves[deed][1] == hand for deed in used))
                lengths.add(len(deeds))
        self.assertTrue({0, 1, 2, 3, 30} <= lengths)

    def test_any_logs_from_any_standing(self):
        source = random.Random(11)
        lengths = set()
        for plan in plans():
            for _ in range(25):
                logs = [[source.randrange(marks) for _ in range(source.randrange(5))] for marks in plan.protocol.hands.marks]
                state, number = source.choice(standings(plan))
                told = run_back(plan, state, number, logs)
                self.assertEqual(plain_back(plan, state, number, logs), told)
                lengths.add(len(told[0]))
        self.assertTrue({0, 1, 2, 3, 4} <= lengths)

    def test_no_deeds(self):
        plan = Plan(PART, (2, 3, 0))
        self.assertEqual((0, 1, ((), ())), run_logs(plan=plan, run=[], number=1))
        self.assertEqual((0, 0, ((), ())), run_logs(plan, ()))
        self.assertEqual(((), 1, 2), run_back(plan=plan, state=1, number=2, logs=[[], ()]))

    def test_errors_in_their_order(self):
        plan = Plan(BOX)
        for value in any_values() + [2, 4]:
            self.must_raise(BadStory, 0, run_logs, plan, (value,), None)
        self.must_raise(BadStory, -1, run_logs, plan, None, None)
        for value in any_values() + [2, 10 ** 30]:
            self.must_raise(Refused, value, run_logs, plan, (0, 2), value)
        for value in not_of_length(2):
            self.must_raise(BadLogs, -1, run_back, plan, 0, 1, value)
            self.must_raise(BadLogs, -1, fitting_standings, plan, value, None)
        self.must_raise(BadLogs, 1, run_back, plan, 0, 1, ((1,), (3,)))
        self.must_raise(BadLogs, 0, fitting_standings, plan, ((2,), None), None)
        for value in any_values() + [2, 10 ** 30]:
            self.must_raise(Refused, value, fitting_standings, plan, ((), ()), value)

    def test_fitting_by_reading_back_from_each(self):
        source = random.Random(12)
        several = 0
        for plan in plans():
            start = plan.protocol.start
            for _ in range(4):
                number = source.randrange(plan.numbers[start])
                run = random_run(source, plan.protocol, source.randrange(7))
                state, now, logs = run_logs(plan, run, number)
                fitting = fitting_standings(plan, [list(log) for log in logs], number)
                self.assertTrue(is_deep_tuple(fitting))
                self.assertIn((state, now), fitting)
                entries = sum(map(len, logs))
                plain = [
                    standing for standing in standings(plan)
                    if plain_back(plan, *standing, logs)[1:] == (start, number)
                    and len(plain_back(plan, *standing, logs)[0]) == entries
                ]
                self.assertEqual(tuple(plain), fitting)
                several += len(fitting) > 1
        self.assertGreater(several, 0)
        self.assertEqual(((0, 0),), fitting_standings(plan=Plan(BOX), logs=((), ())))
        self.assertEqual(((0, 1),), fitting_standings(Plan(BOX), ((), ()), number=1))
        self.assertEqual((), fitting_standings(Plan(BOX), ((1, 1, 1), ()), 0))

    def test_fitting_to_the_limit(self):
        source = random.Random(13)
        ring = [(state, hand, (state + 1) % 8) for state in range(8) for hand in (0, 1)]
        for protocol, numbers in ((Turns(Hands((2, 2)), 8, ring), (2000,) * 8), (one_state((8,) * 8), (2000,))):
            plan = Plan(protocol, numbers)
            run = random_run(source, protocol, 400)
            state, now, logs = run_logs(plan, run, 7)
            fitting = fitting_standings(plan, logs, 7)
            self.assertIn((state, now), fitting)
            for standing in fitting:
                deeds, at, number = run_back(plan, *standing, logs)
                self.assertEqual((400, protocol.start, 7), (len(deeds), at, number))


def state_of(desk):
    return desk.plan, desk.state, desk.number, desk.deeds


class Desks(Raising, unittest.TestCase):
    def test_deeds_are_undone_one_by_one(self):
        source = random.Random(14)
        for plan in plans():
            desk = PlanDesk(plan)
            self.assertEqual((plan, plan.protocol.start, 0, 0), state_of(desk))
            self.assertIsNone(desk.who_undoes())
            kept = [[] for _ in plan.protocol.hands.marks]
            behind = []
            run = random_run(source, plan.protocol, 12)
            for at, deed in enumerate(run):
                behind.append((desk.state, desk.number))
                hand = plan.protocol.moves[deed][1]
                kept[hand].append(desk.act(deed))
                self.assertEqual((hand, at + 1), (desk.who_undoes(), desk.deeds))
            self.assertEqual((desk.state, desk.number, tuple(map(tuple, kept))), run_logs(plan, run))
            for deed in reversed(run):
                hand = desk.who_undoes()
                self.assertEqual(deed, desk.undo(kept[hand].pop()))
                self.assertEqual(behind.pop(), (desk.state, desk.number))
            self.assertEqual((plan, plan.protocol.start, 0, 0), state_of(desk))
            self.assertIsNone(desk.who_undoes())

    def test_anything_in_any_order(self):
        source = random.Random(15)
        for plan in plans():
            desk = PlanDesk(plan)
            state, number, deeds = plan.protocol.start, 0, 0
            for _ in range(40):
                if source.randrange(3) > 0:
                    deed = source.randrange(25)
                    if deed in deeds_from(plan.protocol, state):
                        mark = desk.act(deed)
                        self.assertEqual((*state_of(desk)[1:3], mark), move_on(plan, state, number, deed))
                        deeds += 1
                    else:
                        self.must_raise(Refused, deed, desk.act, deed)
                else:
                    mark = source.randrange(max(plan.protocol.hands.marks) + 1)
                    deeds -= self.undone_plainly(desk, state, number, deeds, mark)
                state, number = desk.state, desk.number
                self.assertEqual(deeds, desk.deeds)

    def undone_plainly(self, desk, state, number, deeds, mark):
        """1 if a mark undoes a deed, 0 if it is refused as it must be."""
        if deeds == 0:
            self.must_raise(Refused, mark, desk.undo, mark)
            return 0
        error = raised(move_back, desk.plan, state, number, mark)
        if error is not None:
            before = state_of(desk)
            self.assertEqual(told(error), told(raised(desk.undo, mark)))
            self.assertEqual(before, state_of(desk))
            return 0
        deed, *ahead = move_back(desk.plan, state, number, mark)
        self.assertEqual(deed, desk.undo(mark))
        self.assertEqual(tuple(ahead), (desk.state, desk.number))
        return 1

    def test_wrong_values_change_nothing(self):
        desk = PlanDesk(plan=Plan(BOX))
        for value in any_values() + [0, 5, 10 ** 30]:
            self.must_raise(Refused, value, desk.undo, value)
        desk.act(deed=1)
        before = state_of(desk)
        for value in any_values() + [0, 1, 4, 10 ** 30]:
            self.must_raise(Refused, value, desk.act, value)
        for value in any_values() + [3, 10 ** 30]:
            self.must_raise(Refused, value, desk.undo, value)
        self.assertEqual(before, state_of(desk))
        self.assertEqual((1, 0), (desk.undo(mark=0), desk.deeds))

    def test_a_standing_in_no_stretch(self):
        # By a wrong mark the thing comes to a number that tells nobody.
        plan = Plan(one_state((2, 4)), (11,))
        desk = PlanDesk(plan)
        for _ in range(3):
            desk.act(1)
        self.assertEqual((7, 1), (desk.number, desk.undo(1)))
        self.assertEqual((0, 10), (desk.undo(0), desk.number))
        self.assertIsNone(desk.who_undoes())
        before = state_of(desk)
        for mark in (0, 1, None, "0", [10]):
            self.must_raise(Refused, 10, desk.undo, mark)
        self.assertEqual(before, state_of(desk))


def plain_weights(protocol, weights):
    more = False
    for state in range(protocol.states):
        if state not in protocol.reached:
            if weights[state] != 0:
                return False
            continue
        pull = sum(
            (Fraction(weights[behind], protocol.hands.marks[hand]) for ahead, hand, behind in protocol.moves if ahead == state),
            Fraction(0),
        )
        if pull < weights[state]:
            return False
        more = more or pull > weights[state]
    return more


class Papers(Raising, unittest.TestCase):
    def protocols(self):
        return small_protocols() + random_protocols(16, 250, (1, 2, 3, 7, 60), 8, 24)

    def test_every_protocol_has_just_one(self):
        words = []
        for protocol in self.protocols():
            word, told = protocol_paper(protocol, most=20000)
            words.append(word)
            self.assertEqual(numbers_exist(protocol), word == "numbers")
            self.assertTrue(is_deep_tuple(told))
            plain = plain_goes(protocol, told) if word == "numbers" else plain_weights(protocol, told)
            self.assertTrue(plain, (protocol.moves, protocol.hands.marks))
            self.assertIs(True, protocol_holds(protocol, (word, told)))
            self.assertIs(True, protocol_holds(protocol, [word, list(told)]))
            other = "weights" if word == "numbers" else "numbers"
            self.assertIs(False, protocol_holds(protocol, (other, told)))
        self.assertGreater(min(words.count("numbers"), words.count("weights")), 60)

    def test_any_small_papers(self):
        held = 0
        for protocol in small_protocols():
            if protocol.states <= 3:
                has = {"numbers": False, "weights": False}
                for told in product(range(7), repeat=protocol.states):
                    goes, pulls = plain_goes(protocol, told), plain_weights(protocol, told)
                    self.assertEqual(goes, protocol_holds(protocol, ("numbers", told)))
                    self.assertEqual(pulls, protocol_holds(protocol, ("weights", list(told))))
                    has = {"numbers": has["numbers"] or goes, "weights": has["weights"] or pulls}
                    held += goes + pulls
                # None has both.
                self.assertFalse(has["numbers"] and has["weights"])
                self.assertFalse(has["weights"] and numbers_exist(protocol))
        self.assertGreater(held, 100)

    def test_great_papers(self):
        self.assertTrue(protocol_holds(BOX, ("numbers", (6 * 10 ** 40, 6 * 10 ** 40))))
        self.assertTrue(protocol_holds(OPEN_END, ("weights", (10 ** 100, 10 ** 100))))
        self.assertTrue(protocol_holds(OPEN_END, ("weights", (0, 10 ** 100))))
        self.assertFalse(protocol_holds(OPEN_END, ("weights", (10 ** 100, 0))))

    def test_most_does_not_stop_weights(self):
        self.assertEqual("weights", protocol_paper(OPEN_END, most=1)[0])
        self.assertEqual("weights", protocol_paper(one_state((2, 2, 3)), most=1)[0])

    def test_values_that_are_no_papers(self):
        for protocol in (BOX, OPEN_END, PART):
            for value in any_values():
                self.assertIs(False, protocol_holds(protocol, value))
                self.assertIs(False, protocol_holds(protocol, (value, (2, 2))))
                for word in ("numbers", "weights"):
                    self.assertIs(False, protocol_holds(protocol, (word, value)))
                    self.assertIs(False, protocol_holds(protocol, (word, (value, 2))))
        self.assertIs(False, protocol_holds(BOX, ("numbers", (2, 2), 0)))
        self.assertIs(False, protocol_holds(BOX, ("numbers",)))
        self.assertIs(False, protocol_holds(BOX, ("numbers", (2, 2, 2))))
        self.assertIs(False, protocol_holds(PART, ("numbers", (2, 2, 1))))
        self.assertIs(True, protocol_holds(protocol=PART, value=("numbers", [2, 2, 0])))
        self.assertIs(False, protocol_holds(OPEN_END, ("weights", (0, 0))))
        # Pulls that are just the weights are not enough.
        even = one_state((2, 2))
        self.assertIs(False, protocol_holds(even, ("weights", (1,))))
        # A weight on a state that is not reached.
        lone = Turns(Hands((1, 1)), 2, [(1, 0, 1), (1, 1, 1)])
        self.assertIs(False, protocol_holds(lone, ("weights", (0, 1))))


if __name__ == "__main__":
    unittest.main()
