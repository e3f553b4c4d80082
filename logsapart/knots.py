"""Knots of a protocol, what their moves pull, and what marks and room a protocol needs."""

from math import lcm

from logsapart.basics import is_below, is_sequence, product_of, with_item
from logsapart.errors import Refused, TooGreat
from logsapart.hands import need_hand
from logsapart.protocols import reached_from
from logsapart.rates import need_length


def protocol_knots(protocol):
    """The knots, by their least states: each a reached state with all that it leads to and that lead back."""
    leads = {state: reached_from(protocol.moves, state) for state in protocol.reached}
    knots = []
    for state in protocol.reached:
        knot = tuple([other for other in leads[state] if state in leads[other]])
        if knot[0] == state:
            knots.append(knot)
    return tuple(knots)


def lacking_rows(moves, marks, knot):
    """By state of a knot how much each weight in it makes its pull lack to its weight, all times one number."""
    common = 1
    for number in marks:
        common = lcm(common, number)
    rows = [[common if state == other else 0 for other in knot] for state in knot]
    places = {state: at for at, state in enumerate(knot)}
    for ahead, hand, behind in moves:
        if ahead in places and behind in places:
            rows[places[ahead]][places[behind]] -= common // marks[hand]
    return rows


def cleared(rows, at, ahead):
    """Rows with a column cleared in all but one of them; `ahead` is the pivot of the column ahead.

    All stay whole: each pivot is the determinant of the first rows and columns up to it.
    """
    pivot = rows[at][at]
    return [
        row if k == at else [(pivot * item - row[at] * top) // ahead for item, top in zip(row, rows[at])]
        for k, row in enumerate(rows)
    ]


def full_weights(moves, marks, knot):
    """(weights, lack): weights of the first states of a knot, as few as can be, with pulls not below them.

    The pull of the last of these lacks so much, 0 or less; the others' are just their weights.
    None if no weights but 0 have such pulls: then all determinants of first rows are above 0.
    """
    rows = lacking_rows(moves, marks, knot)
    ahead = 1
    for at in range(len(knot)):
        lack = rows[at][at]
        if lack <= 0:
            return ([-row[at] for row in rows[:at]] + [ahead], lack)
        rows = cleared(rows, at, ahead)
        ahead = lack
    return None


def sign_with(protocol, marks, knot):
    """1, 0 or -1 for a knot above, at or below 1 if the hands had these marks."""
    full = full_weights(protocol.moves, marks, knot)
    if full is None:
        return -1
    weights, lack = full
    # If weights of some states alone are enough, moves from the others into these pull more.
    if lack < 0 or len(weights) < len(knot):
        return 1
    return 0


def knot_sign(protocol, knot):
    """1, 0 or -1 for a knot above, at or below 1."""
    if not is_sequence(knot) or not all([is_below(state, protocol.states) for state in knot]):
        raise Refused(knot)
    if tuple(knot) not in protocol_knots(protocol):
        raise Refused(knot)
    return sign_with(protocol, protocol.hands.marks, knot)


def is_entered(protocol, knot):
    """Whether a move leads into a knot from a reached state outside."""
    outside = [state for state in protocol.reached if state not in knot]
    return any([ahead in outside and behind in knot for ahead, _, behind in protocol.moves])


def knot_goes(protocol, marks, knot):
    """Whether a knot leaves it possible that numbers go, if the hands had these marks."""
    sign = sign_with(protocol, marks, knot)
    return sign < 0 or (sign == 0 and not is_entered(protocol, knot))


def goes_with(protocol, marks):
    """Whether numbers would go if the hands had these marks."""
    return all([knot_goes(protocol, marks, knot) for knot in protocol_knots(protocol)])


def numbers_exist(protocol):
    """Whether some numbers go."""
    return goes_with(protocol, protocol.hands.marks)


def failing_weights(protocol):
    """By state a weight, so that no pull is below it and some are above; None if numbers go."""
    for knot in protocol_knots(protocol):
        if not knot_goes(protocol, protocol.hands.marks, knot):
            weights, _ = full_weights(protocol.moves, protocol.hands.marks, knot)
            told = {state: weight for state, weight in zip(knot, weights)}
            return tuple([told.get(state, 0) for state in range(protocol.states)])
    return None


def least_alike(protocol):
    """The least number of marks with which numbers would go if all hands had just so many."""
    marks = 1
    while not goes_with(protocol, (marks,) * protocol.hands.many):
        marks += 1
    return marks


def may_go(protocol, hand, knot):
    """Whether a knot leaves it possible that numbers go, if one hand had enough marks."""
    moves = protocol.moves
    others = [move for move in moves if move[1] != hand]
    if all([mover != hand or ahead not in knot or behind not in knot for ahead, mover, behind in moves]):
        return knot_goes(protocol, protocol.hands.marks, knot)
    # With any number of marks the hand's own moves in the knot pull a little more.
    return full_weights(others, protocol.hands.marks, knot) is None


def least_for_hand(protocol, hand):
    """The least number of marks of one hand with which numbers would go; None if none is enough."""
    need_hand(protocol.hands, hand)
    if not all([may_go(protocol, hand, knot) for knot in protocol_knots(protocol)]):
        return None
    enough = 1
    while not goes_with(protocol, with_item(protocol.hands.marks, hand, enough)):
        enough = enough * 2
    short = enough // 2
    while enough - short > 1:
        middle = (short + enough) // 2
        if goes_with(protocol, with_item(protocol.hands.marks, hand, middle)):
            enough = middle
        else:
            short = middle
    return enough


def steps_on(protocol, base):
    """By state its moves, equal ones as one: (state behind, the hand's figure to a base, how many)."""
    steps = []
    for state in range(protocol.states):
        known = {}
        for ahead, hand, behind in protocol.moves:
            if ahead == state:
                known[(behind, hand)] = known.get((behind, hand), 0) + 1
        steps.append([(behind, product_of([base] * hand), times) for (behind, hand), times in known.items()])
    return steps


def runs_on(steps, runs):
    """By state, by counts as figures, how many runs of one deed more there are."""
    longer = [{} for codes in runs]
    for state, codes in enumerate(runs):
        for behind, figure, times in steps[state]:
            told = longer[behind]
            for code, many in codes.items():
                told[code + figure] = told.get(code + figure, 0) + many * times
    return longer


def figures_of(code, base, many):
    """The figures of a number to a base, the least one first."""
    figures = []
    left = code
    for _ in range(many):
        figures.append(left % base)
        left = left // base
    return tuple(figures)


def powers_of(number, most):
    """A number to the power of 0, 1, .. up to most."""
    powers = [1]
    for _ in range(most):
        powers.append(powers[-1] * number)
    return powers


def rooms_of(protocol, runs, length):
    """All (room, state, counts) behind runs of a length."""
    powers = [powers_of(marks, length) for marks in protocol.hands.marks]
    rooms = []
    for state, codes in enumerate(runs):
        for code, many in codes.items():
            counts = figures_of(code, length + 1, protocol.hands.many)
            logs = product_of([row[count] for row, count in zip(powers, counts)])
            rooms.append(((many + logs - 1) // logs, state, counts))
    return rooms


def needed_room(protocol, length, *, most=20000):
    """(room, state, counts): the most runs of a length to one state with the same counts for each of the logs."""
    need_length(length)
    steps = steps_on(protocol, length + 1)
    runs = [{} for state in range(protocol.states)]
    runs[protocol.start][0] = 1
    for _ in range(length):
        runs = runs_on(steps, runs)
        if sum([len(codes) for codes in runs]) > most:
            raise TooGreat(most)
    rooms = rooms_of(protocol, runs, length)
    if not rooms:
        return None
    greatest = max([room for room, _, _ in rooms])
    state, counts = min([(state, counts) for room, state, counts in rooms if room == greatest])
    return (greatest, state, counts)
