"""Protocols: hands that may act in certain states alone, and runs of their deeds."""

from logsapart.basics import as_tuples, fits_bounds, is_below, is_sequence
from logsapart.errors import BadStory, Refused
from logsapart.hands import LONGEST

MOST_STATES = 8
MOST_MOVES = 24


class Turns:
    """A protocol: states, numbered from 0, and moves (state, hand, state), the deeds that may be done."""

    def __init__(self, hands, states, moves, start=0):
        if not is_below(states, MOST_STATES + 1) or states == 0:
            raise Refused(states)
        if not are_moves(hands, states, moves):
            raise Refused(moves)
        if not is_below(start, states):
            raise Refused(start)
        self.hands = hands
        self.states = states
        self.moves = as_tuples(moves)
        self.start = start
        self.reached = reached_from(self.moves, start)

    def __eq__(self, other):
        if not isinstance(other, Turns) or self.hands != other.hands:
            return False
        return (self.states, self.moves, self.start) == (other.states, other.moves, other.start)


def are_moves(hands, states, value):
    """Whether any value is a sequence of at most 24 moves."""
    if not is_sequence(value) or len(value) > MOST_MOVES:
        return False
    return all([fits_bounds(move, (states, hands.many, states)) for move in value])


def reached_from(moves, start):
    """The states to which moves lead from a state, and it, ascending."""
    known = {start: True}
    waiting = [start]
    while waiting:
        state = waiting.pop()
        for ahead, _, behind in moves:
            if ahead == state and behind not in known:
                known[behind] = True
                waiting.append(behind)
    return tuple(sorted(known))


def deeds_from(protocol, state):
    """The deeds, ascending, that may be done in a state."""
    if not is_below(state, protocol.states):
        raise Refused(state)
    return tuple([deed for deed, (ahead, _, _) in enumerate(protocol.moves) if ahead == state])


def state_behind(protocol, state, value):
    """The state to which any value leads as a deed in a state, None if it cannot be done there."""
    if not is_below(value, len(protocol.moves)):
        return None
    ahead, _, behind = protocol.moves[value]
    if ahead != state:
        return None
    return behind


def check_run(protocol, value):
    """Any value as a tuple, if it is a run of this protocol."""
    if not is_sequence(value) or len(value) > LONGEST:
        raise BadStory(-1)
    state = protocol.start
    for at, deed in enumerate(value):
        state = state_behind(protocol, state, deed)
        if state is None:
            raise BadStory(at)
    return tuple(value)


def run_story(protocol, run):
    """(by deed its hand, the state behind the run)."""
    state = protocol.start
    hands = []
    for deed in check_run(protocol, run):
        _, hand, state = protocol.moves[deed]
        hands.append(hand)
    return (tuple(hands), state)
