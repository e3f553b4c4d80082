"""Point 39: protocols, the states that are reached, deeds from a state, and runs."""

import random
import unittest
from itertools import product

from logsapart.errors import BadStory, Refused
from logsapart.hands import Hands
from logsapart.protocols import Turns, check_run, deeds_from, run_story
from support import Raising, any_values, is_deep_tuple

PAIR = Hands((2, 3))
BOX = Turns(PAIR, 2, [(0, 0, 1), (0, 1, 1), (1, 1, 0), (1, 1, 0)])

CHAIN = Turns(PAIR, 8, [(state + 1, 0, state) for state in range(7)], 7)


def protocols():
    """Protocols of all sizes: without moves, with equal ones, with states that are not reached."""
    source = random.Random(50)
    told = [BOX, Turns(PAIR, 1, ()), Turns(PAIR, 8, [], 7), Turns(Hands((1, 1)), 1, [(0, 0, 0)] * 24), CHAIN]
    for states in range(1, 9):
        for _ in range(12):
            hands = Hands((2,) * source.randrange(2, 9))
            moves = [
                (source.randrange(states), source.randrange(hands.many), source.randrange(states))
                for _ in range(source.randrange(25))
            ]
            told.append(Turns(hands, states, moves, source.randrange(states)))
    return told


def plain_reached(protocol):
    reached = {protocol.start}
    for _ in range(protocol.states):
        reached |= {behind for ahead, _, behind in protocol.moves if ahead in reached}
    return tuple(sorted(reached))


def plain_run(protocol, value):
    """(index of the first deed that cannot be done, None), or (None, the state behind), deed by deed."""
    state = protocol.start
    for at, deed in enumerate(value):
        if deed not in range(len(protocol.moves)) or protocol.moves[deed][0] != state:
            return at, None
        state = protocol.moves[deed][2]
    return None, state


class MakingProtocols(Raising, unittest.TestCase):
    def test_attributes(self):
        moves = [[0, 0, 1], (0, 1, 1), [1, 1, 0], [1, 1, 0]]
        told = Turns(hands=Hands([2, 3]), states=2, moves=moves, start=1)
        moves[0][2] = 0
        self.assertTrue(told.hands == PAIR)
        self.assertEqual((2, BOX.moves, 1, (0, 1)), (told.states, told.moves, told.start, told.reached))
        self.assertEqual(((0, 0, 1), (0, 1, 1), (1, 1, 0), (1, 1, 0)), BOX.moves)
        self.assertTrue(is_deep_tuple(told.moves) and is_deep_tuple(told.reached))
        self.assertEqual(0, BOX.start)

    def test_reached_states(self):
        lengths = set()
        for protocol in protocols():
            self.assertEqual(plain_reached(protocol), protocol.reached)
            lengths.add(len(protocol.reached))
        self.assertEqual(set(range(1, 9)), lengths)
        # A state from which the start is reached need not be reached.
        self.assertEqual((1, 2), Turns(PAIR, 4, [(0, 0, 1), (1, 1, 2), (2, 0, 1), (3, 1, 3)], 1).reached)
        self.assertEqual(tuple(range(8)), CHAIN.reached)

    def test_equality(self):
        self.assertTrue(BOX == Turns(Hands([2, 3]), 2, [list(move) for move in BOX.moves], 0))
        self.assertFalse(BOX != Turns(PAIR, 2, BOX.moves))
        self.assertFalse(BOX == Turns(Hands((2, 4)), 2, BOX.moves))
        self.assertFalse(BOX == Turns(PAIR, 3, BOX.moves))
        self.assertFalse(BOX == Turns(PAIR, 2, BOX.moves[:3]))
        self.assertFalse(BOX == Turns(PAIR, 2, BOX.moves[::-1]))
        self.assertFalse(BOX == Turns(PAIR, 2, BOX.moves, 1))
        for value in any_values() + [BOX.moves, PAIR]:
            self.assertFalse(BOX == value)

    def test_wrong_states(self):
        for value in any_values() + [0, 9, 10 ** 30]:
            self.must_raise(Refused, value, Turns, PAIR, value, None, None)
        self.assertEqual(8, Turns(PAIR, 8, ()).states)
        self.assertEqual(1, Turns(PAIR, 1, ()).states)

    def test_wrong_moves(self):
        wrong = [value for value in any_values() if value not in ((), [])] + [
            [(0, 0)], [(0, 0, 0, 0)], [(2, 0, 0)], [(0, 2, 0)], [(0, 0, 2)], [(0, 0, -1)], [(0, True, 0)], [(0, 0, 0), None],
            [(0, 0, "0")], [(0, 0, 0)] * 25, (0, 0, 0), [(0, 0, 0), (0, None, 1)], 3,
        ]
        for value in wrong:
            self.must_raise(Refused, value, Turns, PAIR, 2, value, None)
        self.assertEqual(24, len(Turns(PAIR, 1, [(0, 1, 0)] * 24).moves))

    def test_wrong_starts(self):
        for value in any_values() + [2, 10 ** 30]:
            self.must_raise(Refused, value, Turns, PAIR, 2, BOX.moves, value)


class DeedsFrom(Raising, unittest.TestCase):
    def test_by_all_moves(self):
        for protocol in protocols():
            for state in range(protocol.states):
                plain = tuple(deed for deed in range(len(protocol.moves)) if protocol.moves[deed][0] == state)
                self.assertEqual(plain, deeds_from(protocol, state))
        self.assertEqual((2, 3), deeds_from(protocol=BOX, state=1))

    def test_wrong_states(self):
        for value in any_values() + [2, 10 ** 30]:
            self.must_raise(Refused, value, deeds_from, BOX, value)


class Runs(Raising, unittest.TestCase):
    def test_all_rows_of_deeds(self):
        runs = 0
        for protocol in protocols():
            for value in product(range(min(len(protocol.moves) + 1, 5)), repeat=3):
                at, state = plain_run(protocol, value)
                if at is not None:
                    self.must_raise(BadStory, at, check_run, protocol, value)
                    self.must_raise(BadStory, at, run_story, protocol, list(value))
                    continue
                runs += 1
                self.assertEqual(value, check_run(protocol, list(value)))
                told = run_story(protocol, list(value))
                self.assertEqual((tuple(protocol.moves[deed][1] for deed in value), state), told)
                self.assertTrue(is_deep_tuple(told))
        self.assertGreater(runs, 100)

    def test_empty_and_long_runs(self):
        for protocol in protocols():
            self.assertEqual((), check_run(protocol, []))
            self.assertEqual(((), protocol.start), run_story(protocol, ()))
        run = [0, 2, 1, 3] * 2500
        self.assertEqual(tuple(run), check_run(protocol=BOX, value=run))
        self.assertEqual(((0, 1, 1, 1) * 2500, 0), run_story(protocol=BOX, run=run))
        for call in (check_run, run_story):
            self.must_raise(BadStory, -1, call, BOX, run + [0])
            self.must_raise(BadStory, 9999, call, BOX, run[:-1] + [0])

    def test_wrong_runs(self):
        for call in (check_run, run_story):
            for value in any_values() + [4, 10 ** 30]:
                self.must_raise(BadStory, 1, call, BOX, (0, value, None))
                self.must_raise(BadStory, 0, call, BOX, [value])
                if not isinstance(value, (list, tuple)):
                    self.must_raise(BadStory, -1, call, BOX, value)
            # The first deed begins at the start, each other one where the one ahead of it ends.
            self.must_raise(BadStory, 0, call, BOX, (2, 0))
            self.must_raise(BadStory, 1, call, BOX, (0, 1))
        self.assertEqual((2, 0), check_run(Turns(PAIR, 2, BOX.moves, 1), (2, 0)))


if __name__ == "__main__":
    unittest.main()
