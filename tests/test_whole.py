"""Across the whole program: shares are judged alike everywhere, one story is read back by each way of telling it."""

import random
import unittest

from logsapart.court import court_paper, least_failing
from logsapart.desk import Desk
from logsapart.dials import Dial, DialDesk, logs_of
from logsapart.digits import Digits, digit_logs, digit_story, least_number
from logsapart.epochs import Crowd, Roll, fewest_epochs
from logsapart.errors import NoTelling, Refused
from logsapart.flats import Flats, flats_logs, flats_story
from logsapart.hands import Hands, is_telling, share
from logsapart.journals import journal_of, with_entry
from logsapart.kinds import Kinds, is_served, kinds_share
from logsapart.knots import knot_sign, numbers_exist
from logsapart.losses import fit_story
from logsapart.markers import Marker, is_reversible, marker_logs, marker_story, table_marker
from logsapart.meets import Tally, kinds_number, tally_logs, tally_story
from logsapart.plans import Plan, PlanDesk, run_back, run_logs
from logsapart.protocols import Turns
from logsapart.rates import grow_logs, grow_story
from logsapart.reading import read_from, story_of
from logsapart.riders import Carrier, carry_logs, carry_story
from logsapart.since import Witness, rest_order, since_logs
from logsapart.store import Store, deeds_of, store_of
from logsapart.tables import Table, dial_table, is_good, table_logs, table_story
from logsapart.tight import is_tight
from logsapart.undoing import UndoDesk
from logsapart.weights import least_marks
from support import Raising, fraction_share, is_deep_tuple, raised, small_hands, told

OTHERS = [Hands(marks) for marks in (
    (2, 3, 7, 42), (2, 3, 7, 43), (2, 3, 7, 41), (2, 4, 8, 16, 16), (2, 4, 8, 16, 17), (2, 4, 8, 16, 15), (8,) * 8, (8,) * 7 + (7,),
    (60, 60), (2, 2), (1, 60), (3, 3, 4), (3, 3, 3),
)]


def one_state(hands):
    return Turns(hands, 1, [(0, hand, 0) for hand in range(hands.many)])


def own_kinds(hands):
    return Kinds(hands, [(hand,) for hand in range(hands.many)])


def court_tells(hands):
    """Whether the court finds that some marker tells; there may be too many deeds for its other paper."""
    error = raised(court_paper, hands, most=400)
    if error is not None:
        return False
    word, _ = court_paper(hands, most=400)
    return word == "tells" and least_failing(hands) is None


class Shares(Raising, unittest.TestCase):
    def test_judged_alike(self):
        signs = set()
        for hands in small_hands(6, (2, 3)) + OTHERS:
            top, bottom = share(hands)
            tells = top <= bottom
            signs.add((top > bottom) - (top < bottom))
            self.assertIs(tells, is_telling(hands))
            self.assertEqual((top, bottom), kinds_share(own_kinds(hands)))
            self.assertEqual(
                [tells] * 5,
                [court_tells(hands), least_number(hands) is not None, is_served(own_kinds(hands)),
                 numbers_exist(one_state(hands)), fewest_epochs(Crowd(hands.marks), tuple(range(hands.many))) == (0,)],
            )
            self.assertEqual((top > bottom) - (top < bottom), knot_sign(one_state(hands), (0,)))
            for call, *rest in (
                (Dial,), (DialDesk,), (Digits,), (UndoDesk,), (Carrier, (1,) * hands.many), (Store, (0,)),
            ):
                self.check(tells, top, bottom, call, hands, *rest)
            if hands.many <= 4:
                for call, value in ((dial_table, hands), (Flats, own_kinds(hands))):
                    self.check(tells, top, bottom, call, value)
            self.check(tells, top, bottom, lambda kinds: Tally(kinds, kinds_number(kinds, most=10000)), own_kinds(hands))
            self.check(tells, top, bottom, Desk, "hands " + " ".join(map(str, hands.marks)) + "\ncells 0")
            if tells:
                Plan(one_state(hands))
            else:
                self.assertIs(Refused, raised(Plan, one_state(hands)).__class__)
        self.assertEqual({-1, 0, 1}, signs)

    def check(self, tells, top, bottom, call, *args):
        error = raised(call, *args)
        if tells:
            self.assertIsNone(error)
        else:
            self.assertIs(NoTelling, error.__class__)
            self.assertEqual((top, bottom), (error.top, error.bottom))

    def test_numbers_of_places_are_alike(self):
        for hands in small_hands(5, (2, 3)):
            if fraction_share(hands.marks) <= 1:
                number = least_number(hands)
                self.assertEqual(number, kinds_number(own_kinds(hands), most=10000))
                self.assertEqual((number,), Plan(one_state(hands)).numbers)

    def test_least_marks_are_marks_that_tell(self):
        for numbers in ((1, 1), (3, 1, 2), (400, 1, 9), (7, 7, 7, 2), (1,) * 8):
            hands = Hands(least_marks(numbers))
            self.assertTrue(is_telling(hands) and is_tight(hands))
            story = [hand for hand, many in enumerate(numbers) for _ in range(min(many, 9))]
            self.assertEqual(tuple(story), story_of(Dial(hands), logs_of(Dial(hands), story)))


class OneStory(unittest.TestCase):
    def test_read_back_by_each(self):
        source = random.Random(140)
        for hands in (Hands((2, 2)), Hands((2, 3, 6)), Hands((2, 4)), Hands((4, 4, 4)), Hands((4, 4, 5, 5)), Hands((3, 3, 3))):
            for length in (0, 1, 2, 7, 40):
                story = tuple(source.randrange(hands.many) for _ in range(length))
                self.assertEqual([story] * 12, self.readings(hands, story))
                self.check_desks(hands, story)
                self.check_store(hands, story)

    def readings(self, hands, story):
        """The story as it is read back in all ways that whole logs tell it."""
        dial, digits, table = Dial(hands), Digits(hands), dial_table(hands)
        carrier = Carrier(hands, (1,) * hands.many)
        kinds = own_kinds(hands)
        flats, tally = Flats(kinds), Tally(kinds, kinds_number(kinds, most=10000))
        place, logs = digit_logs(digits, story)
        number, grown = grow_logs(hands, story)
        marker = table_marker(table)
        many, meetings = tally_logs(tally, story)
        plan = Plan(one_state(hands))
        state, standing, run = run_logs(plan, story)
        laid, behind = marker_logs(marker, story)
        told = [
            story_of(dial, logs_of(dial, story)),
            read_from(dial, (0,) * hands.many, logs_of(dial, story)),
            digit_story(digits, place, logs)[0],
            grow_story(hands, grown, number)[1],
            tuple(hand for hand, _ in carry_story(carrier, carry_logs(carrier, [(hand, 0) for hand in story]))),
            table_story(table, table_logs(table, story)),
            table_story(table, laid) if behind is not None else None,
            flats_story(flats, flats_logs(flats, story)),
            tally_story(tally, many, meetings)[0],
            run_back(plan, state, standing, run)[0],
            fit_story(dial, logs_of(dial, story), (0,) * hands.many, 0),
        ]
        return told + [self.by_journal(hands, story)]

    def by_journal(self, hands, story):
        """By a crowd whose guests all find room: the journal has one epoch."""
        roll, logs = Roll(Crowd(hands.marks)), [()] * hands.many
        for guest in story:
            logs[guest] = with_entry(logs[guest], *roll.act(guest))
        first, stories = journal_of(Crowd(hands.marks), logs)
        self.assertEqual((0, 1 if story else 0), (first, len(stories)))
        return sum(stories, ())

    def check_desks(self, hands, story):
        dial_desk, undo_desk, plan_desk = DialDesk(hands), UndoDesk(hands), PlanDesk(Plan(one_state(hands)))
        logs, marks, kept = [[] for _ in range(hands.many)], [[] for _ in range(hands.many)], [[] for _ in range(hands.many)]
        for hand in story:
            logs[hand].append(dial_desk.act(hand))
            marks[hand].append(undo_desk.act(hand))
            kept[hand].append(plan_desk.act(hand))
            self.assertEqual([hand] * 3, [dial_desk.who(), undo_desk.who_undoes(), plan_desk.who_undoes()])
        self.assertEqual(logs_of(Dial(hands), story), tuple(map(tuple, logs)))
        # One state with one move a hand is the rule by digits.
        self.assertEqual(marks, kept)
        for hand in reversed(story):
            self.assertEqual((hand, hand), (undo_desk.undo(marks[hand].pop()), plan_desk.undo(kept[hand].pop())))

    def check_store(self, hands, story):
        store = Store(hands, (0,))
        for at, hand in enumerate(story):
            store.put(hand, 0, at + 1)
        self.assertEqual(logs_of(Dial(hands), story), tuple(tuple(entry[0] for entry in log) for log in store.done))
        self.assertEqual(story, tuple(hand for hand, _, _ in deeds_of(hands, store.sheet())[1]))

    def test_by_who_acted_since(self):
        source = random.Random(141)
        for hands in (Hands((2, 2)), Hands((4, 4, 4)), Hands((8, 8, 8, 8))):
            story = tuple(source.randrange(hands.many) for _ in range(40))
            logs = since_logs(hands, story)
            self.assertEqual(story, rest_order(hands, logs))
            witness = Witness(hands)
            marks = [witness.act(hand) for hand in story]
            read = [list(log) for log in logs]
            self.assertEqual(marks, [read[hand].pop(0) for hand in story])

    def test_markers_of_tables(self):
        hands = Hands((2, 2))
        table = dial_table(hands)
        self.assertTrue(is_good(table))
        marker = table_marker(table)
        # Its standings are rows of last marks: to one of them two deeds may lead by different hands.
        self.assertEqual(4, marker.standings)
        plain = Marker(hands, [((0, 0), (0, 1)), ((1, 0), (1, 1))])
        self.assertTrue(is_reversible(plain))
        for length in range(5):
            for number in range(2 ** length):
                story = tuple(number >> at & 1 for at in range(length))
                logs, standing = marker_logs(plain, story)
                self.assertEqual(story, marker_story(plain, logs, standing))


class Objects(unittest.TestCase):
    """Points 1 and 2: what objects have, and what stays as it is."""

    def test_attributes_are_there_at_once(self):
        hands = Hands((2, 2))
        box = one_state(hands)
        for made, names in (
            (hands, "marks many"), (Dial(hands), "hands size arcs"), (DialDesk(hands), "dial last deeds"),
            (Digits(hands), "hands number stretches"), (UndoDesk(hands), "digits place deeds"),
            (Carrier(hands, (1, 1)), "hands riders size arcs"), (Table(hands, (0, 1, 1, 0)), "hands tells"),
            (Marker(hands, [((0, 0), (0, 0))]), "hands rows standings"), (own_kinds(hands), "hands lots sizes"),
            (Flats(own_kinds(hands)), "kinds table"), (Tally(own_kinds(hands), 2), "kinds number starts"),
            (box, "hands states moves start reached"), (Plan(box), "protocol numbers stretches"),
            (PlanDesk(Plan(box)), "plan state number deeds"), (Crowd((2, 2)), "marks many size"),
            (Roll(Crowd((2, 2))), "crowd epoch there last"), (Store(hands, (0,)), "hands cells done undone"),
            (Witness(hands), "hands since"), (Desk("hands 2 2\ncells 0"), "store"),
        ):
            for name in names.split():
                self.assertIn(name, vars(made))
                self.assertTrue(is_deep_tuple(vars(made)[name]), name)

    def test_later_changes_of_arguments_have_no_effect(self):
        marks, cells, moves, numbers = [2, 2], [0, 5], [[0, 0, 0], [0, 1, 0]], [2]
        hands, crowd = Hands(marks), Crowd(marks)
        store, box = Store(hands, cells), Turns(hands, 1, moves)
        plan = Plan(box, numbers)
        sheet = [[0, 5], [[[0, 0, 0, 0]], []], [[], []]]
        anew = store_of(hands, sheet)
        marks[0] = cells[0] = numbers[0] = 7
        moves[0][1] = 1
        sheet[1][0][0][0] = 1
        self.assertEqual(((2, 2), (2, 2), (0, 5), ((0, 0, 0), (0, 1, 0)), (2,)),
                         (hands.marks, crowd.marks, store.cells, box.moves, plan.numbers))
        self.assertEqual((((0, 0, 0, 0),), ()), anew.done)

    def test_arguments_are_not_changed(self):
        hands = Hands((2, 2))
        sheet = [[0], [[[0, 0, 0, 0]], []], [[], []]]
        store = store_of(hands, sheet)
        store.put(1, 0, 5)
        deeds_of(hands, sheet)
        self.assertEqual([[0], [[[0, 0, 0, 0]], []], [[], []]], sheet)
        logs = [[[0, 0, [0]]], []]
        journal_of(Crowd((2, 2)), logs)
        with_entry(logs[0], 0, 0, 1)
        self.assertEqual([[[0, 0, [0]]], []], logs)
        left = [[0], [1]]
        fit_story(Dial(hands), left, [2, 0], 1)
        self.assertEqual([[0], [1]], left)

    def test_equal_calls_return_equal_results(self):
        hands = Hands((2, 3, 6))
        plan = Plan(one_state(hands))
        first = run_logs(plan, (0, 1, 2))
        desk = PlanDesk(plan)
        for hand in (2, 1, 0):
            desk.act(hand)
        self.assertEqual(first, run_logs(number=0, run=[0, 1, 2], plan=plan))
        self.assertEqual(least_marks((3, 1, 2)), least_marks(numbers=[3, 1, 2]))

    def test_no_bool_is_a_number(self):
        hands = Hands((2, 2))
        for call, *args in (
            (Store(hands, (0,)).put, True, 0, 0), (Store(hands, (0,)).put, 0, False, 0), (Store(hands, (0,)).put, 0, 0, True),
            (Roll, Crowd((2,)), True), (Roll(Crowd((2, 2))).act, True), (Witness(hands).act, False), (Crowd, (True, 2)),
            (Plan, one_state(hands), (True,)), (PlanDesk(Plan(one_state(hands))).act, False), (least_marks, (True, 1)),
        ):
            self.assertIsNotNone(told(raised(call, *args)))


if __name__ == "__main__":
    unittest.main()
