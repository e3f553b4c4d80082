"""Plans: the thing bears a state and a number, and one mark of the hand told undoes the last deed."""

from logsapart.basics import as_tuples, is_below, is_number, is_sequence
from logsapart.errors import Refused, TooGreat
from logsapart.knots import failing_weights, numbers_exist
from logsapart.logs import check_logs, empty_logs
from logsapart.protocols import check_run, state_behind
from logsapart.spans import span_with, spans_of

GREATEST_NUMBER = 2000


def wholes_of(protocol, numbers):
    """By state, by hand the numbers of the states ahead over the hand's moves into the state, added up."""
    wholes = [[0] * protocol.hands.many for state in range(protocol.states)]
    for ahead, hand, behind in protocol.moves:
        wholes[behind][hand] += numbers[ahead]
    return wholes


def stretch_needs(protocol, numbers):
    """By state, by hand how long its stretch must be."""
    marks = protocol.hands.marks
    return [[(whole + k - 1) // k for whole, k in zip(row, marks)] for row in wholes_of(protocol, numbers)]


def is_by_state(protocol, value):
    """Whether any value is a sequence of a number for each state, 0 for each that is not reached."""
    if not is_sequence(value) or len(value) != protocol.states:
        return False
    if not all([is_number(item) for item in value]):
        return False
    return all([item == 0 or state in protocol.reached for state, item in enumerate(value)])


def numbers_go(protocol, value):
    """Whether any value are numbers by state that go."""
    if not is_by_state(protocol, value) or not all([value[state] > 0 for state in protocol.reached]):
        return False
    return all([sum(row) <= number for row, number in zip(stretch_needs(protocol, value), value)])


def are_weights(protocol, value):
    """Whether any value are weights by state whose pulls are nowhere below and somewhere above them."""
    if not is_by_state(protocol, value):
        return False
    lacks = [lack_of(protocol, value, state) for state in protocol.reached]
    return all([lack <= 0 for lack in lacks]) and any([lack < 0 for lack in lacks])


def lack_of(protocol, weights, state):
    """What the pull of a state lacks to its weight, times all numbers of marks."""
    top = weights[state]
    bottom = 1
    for hand, marks in enumerate(protocol.hands.marks):
        pulling = [weights[behind] for ahead, mover, behind in protocol.moves if (ahead, mover) == (state, hand)]
        top = top * marks - sum(pulling) * bottom
        bottom = bottom * marks
    return top


def least_numbers(protocol, most):
    """The least numbers by state that go, if some do; None if one of them is greater than most."""
    numbers = [1 if state in protocol.reached else 0 for state in range(protocol.states)]
    while max(numbers) <= most:
        # What some numbers need all greater ones need, too: none between the two go.
        needed = [max(number, sum(row)) for number, row in zip(numbers, stretch_needs(protocol, numbers))]
        if needed == numbers:
            return tuple(numbers)
        numbers = needed
    return None


def protocol_paper(protocol, *, most=2000):
    """("numbers", the least that go), or ("weights", some by state) if none go."""
    if not numbers_exist(protocol):
        return ("weights", failing_weights(protocol))
    numbers = least_numbers(protocol, most)
    if numbers is None:
        raise TooGreat(most)
    return ("numbers", numbers)


def protocol_holds(protocol, value):
    """Whether any value is a paper that is right for this protocol."""
    if not is_sequence(value) or len(value) != 2:
        return False
    word, told = value
    if word == "numbers":
        return numbers_go(protocol, told)
    if word == "weights":
        return are_weights(protocol, told)
    return False


def need_numbers(protocol, numbers):
    """Numbers that go as a tuple; the least ones for None."""
    if numbers is None:
        word, told = protocol_paper(protocol, most=GREATEST_NUMBER)
        if word == "weights":
            raise Refused(protocol)
        return told
    if not numbers_go(protocol, numbers):
        raise Refused(numbers)
    return tuple(numbers)


class Plan:
    """Numbers by state that go; each hand has a stretch of each state, each deed a part of a stretch."""

    def __init__(self, protocol, numbers=None):
        self.numbers = need_numbers(protocol, numbers)
        self.protocol = protocol
        self.stretches = tuple([spans_of(row) for row in stretch_needs(protocol, self.numbers)])
        self.parts = parts_of(protocol, self.numbers)

    def __eq__(self, other):
        return isinstance(other, Plan) and self.protocol == other.protocol and self.numbers == other.numbers


def parts_of(protocol, numbers):
    """By deed (first, behind) of its part, of the wholes of all deeds of its hand into its state."""
    used = [[0] * protocol.hands.many for state in range(protocol.states)]
    parts = []
    for ahead, hand, behind in protocol.moves:
        first = used[behind][hand]
        used[behind][hand] = first + numbers[ahead]
        parts.append((first, used[behind][hand]))
    return tuple(parts)


def need_number_in(plan, state, number):
    """The number, if any value is one below the number of a state."""
    if not is_below(number, plan.numbers[state]):
        raise Refused(number)
    return number


def need_standing(plan, state, number):
    """Nothing, if any two values are a state and a number below its number."""
    if not is_below(state, plan.protocol.states):
        raise Refused(state)
    need_number_in(plan, state, number)


def standing_behind(plan, number, deed):
    """(state, number, mark) behind a deed at a number, all being right."""
    _, hand, behind = plan.protocol.moves[deed]
    marks = plan.protocol.hands.marks[hand]
    first, _ = plan.stretches[behind][hand]
    start, _ = plan.parts[deed]
    whole = number + start
    return (behind, first + whole // marks, whole % marks)


def standing_ahead(plan, state, number, mark):
    """(deed, state, number) ahead of the deed that came here with this mark of the hand told; None for none."""
    hand = span_with(plan.stretches[state], number)
    first, _ = plan.stretches[state][hand]
    whole = (number - first) * plan.protocol.hands.marks[hand] + mark
    for deed, (ahead, mover, behind) in enumerate(plan.protocol.moves):
        start, end = plan.parts[deed]
        if mover == hand and behind == state and start <= whole < end:
            return (deed, ahead, whole - start)
    return None


def move_on(plan, state, number, deed):
    """(state, number, mark) behind a deed."""
    need_standing(plan, state, number)
    if state_behind(plan.protocol, state, deed) is None:
        raise Refused(deed)
    return standing_behind(plan, number, deed)


def hand_at(plan, state, number):
    """The hand in whose stretch a standing is, None if it is in none."""
    need_standing(plan, state, number)
    return span_with(plan.stretches[state], number)


def move_back(plan, state, number, mark):
    """(deed, state, number) of the deed that came to this standing with this mark, and ahead of it."""
    hand = hand_at(plan, state, number)
    if hand is None:
        raise Refused(number)
    if not is_below(mark, plan.protocol.hands.marks[hand]):
        raise Refused(mark)
    ahead = standing_ahead(plan, state, number, mark)
    if ahead is None:
        raise Refused(mark)
    return ahead


def run_logs(plan, run, number=0):
    """(state, number, logs) behind a run that begins at the start with a number."""
    told = check_run(plan.protocol, run)
    state = plan.protocol.start
    now = need_number_in(plan, state, number)
    logs = empty_logs(plan.protocol.hands)
    for deed in told:
        _, hand, _ = plan.protocol.moves[deed]
        state, now, mark = standing_behind(plan, now, deed)
        logs[hand].append(mark)
    return (state, now, as_tuples(logs))


def run_back(plan, state, number, logs):
    """(deeds, state, number): logs read back from a standing as far as they go."""
    need_standing(plan, state, number)
    rows = [list(log) for log in check_logs(plan.protocol.hands, logs)]
    deeds = []
    at = state
    now = number
    hand = span_with(plan.stretches[at], now)
    while hand is not None and rows[hand]:
        told = standing_ahead(plan, at, now, rows[hand].pop())
        if told is None:
            break
        deed, at, now = told
        deeds.append(deed)
        hand = span_with(plan.stretches[at], now)
    return (tuple(deeds[::-1]), at, now)


def all_standings(plan):
    """All standings as pairs, ascending."""
    return [(state, number) for state, numbers in enumerate(plan.numbers) for number in range(numbers)]


def standings_ahead(plan, standings):
    """(told, ahead): by standing of all the hand told there, and by its mark the place of the standing ahead of it.

    None stands for no hand, and for a mark with which no deed came there.
    """
    places = {standing: at for at, standing in enumerate(standings)}
    told = [span_with(plan.stretches[state], number) for state, number in standings]
    ahead = [[None] * (0 if hand is None else plan.protocol.hands.marks[hand]) for hand in told]
    for deed, (state, _, _) in enumerate(plan.protocol.moves):
        for number in range(plan.numbers[state]):
            behind, now, mark = standing_behind(plan, number, deed)
            ahead[places[(behind, now)]][mark] = places[(state, number)]
    return (told, ahead)


def read_to(told, ahead, logs, place):
    """The place of the standing to which all logs are read back from one, None if they are not read whole."""
    left = [len(log) for log in logs]
    at = place
    for _ in range(sum(left)):
        hand = told[at]
        if hand is None or left[hand] == 0:
            return None
        left[hand] -= 1
        at = ahead[at][logs[hand][left[hand]]]
        if at is None:
            return None
    return at


def fitting_standings(plan, logs, number=0):
    """The standings, ascending, from which logs are read back whole to the start with a number."""
    rows = check_logs(plan.protocol.hands, logs)
    need_number_in(plan, plan.protocol.start, number)
    standings = all_standings(plan)
    told, ahead = standings_ahead(plan, standings)
    start = standings.index((plan.protocol.start, number))
    return tuple([standing for at, standing in enumerate(standings) if read_to(told, ahead, rows, at) == start])


class PlanDesk:
    """A desk that hears deeds, keeps the standing alone, and undoes deeds by the marks handed in."""

    def __init__(self, plan):
        self.plan = plan
        self.state = plan.protocol.start
        self.number = 0
        self.deeds = 0

    def act(self, deed):
        """Hears a deed; returns the mark that its hand keeps."""
        state, number, mark = move_on(self.plan, self.state, self.number, deed)
        self.state = state
        self.number = number
        self.deeds += 1
        return mark

    def who_undoes(self):
        """The hand that must undo first, None for nobody."""
        if self.deeds == 0:
            return None
        return hand_at(self.plan, self.state, self.number)

    def undo(self, mark):
        """Undoes the last deed by its mark; returns it."""
        if self.deeds == 0:
            raise Refused(mark)
        deed, state, number = move_back(self.plan, self.state, self.number, mark)
        self.state = state
        self.number = number
        self.deeds -= 1
        return deed
