"""The examples that the document shows, as they stand there."""

import doctest
import unittest

OVERVIEW = """
>>> from logsapart.dials import Dial, logs_of
>>> from logsapart.hands import Hands, share
>>> from logsapart.reading import story_of
>>> hands = Hands((2, 3, 6))
>>> share(hands), logs_of(Dial(hands), (0, 2, 1, 1, 0))
((1, 1), ((0, 1), (2, 2), (5,)))
>>> story_of(Dial(hands), ((0, 1), (2, 2), (5,)))
(0, 2, 1, 1, 0)
"""

HANDS_AND_LOGS = """
>>> from logsapart.hands import Hands, hands_more, new_marks, room, share
>>> from logsapart.logs import laid_logs, last_marks, marks_along, story_counts, struck_logs
>>> from logsapart.texts import hands_text, logs_text
>>> hands = Hands([2, 4, 6])
>>> share(hands), room(hands), new_marks(hands), hands_more(hands, 24), hands_text(hands)
((11, 12), (1, 12), 12, 2, 'hands 2 4 6')
>>> logs = laid_logs(hands, (2, 0, 2, 2), (5, 1, 0, 3))
>>> logs, last_marks(hands, logs), story_counts(hands, (2, 0, 2, 2)), marks_along(hands, (0, 2, 2, 2), logs)
(((1,), (), (5, 0, 3)), (1, 0, 3), (1, 0, 3), (1, 5, 0, 3))
>>> struck_logs(hands, logs, 2), logs_text(hands, logs)
(((1,), (), (5, 0)), '1\\n-\\n5 0 3')
"""

COURT = """
>>> from logsapart.counts import logs_number, nth_story, story_number, story_place
>>> from logsapart.court import book_logs, court_paper, crowd_bound, crowd_number, least_failing, twin_stories
>>> from logsapart.hands import Hands
>>> pair, three = Hands([2, 2]), Hands([2, 2, 3])
>>> story_number(three, (4, 3, 2)), logs_number(three, (4, 3, 2)), least_failing(three), court_paper(pair)
(1260, 1152, 9, ('tells', (1, 1)))
>>> nth_story(pair, (2, 1), 1), story_place(pair, (1, 0, 0)), crowd_bound(three, 12)
((0, 1, 0), ((2, 1), 2), 3)
>>> swap = [[1, 1], [1, 0, 0, 1]]
>>> book_logs(pair, swap, (1, 0)), twin_stories(pair, swap), twin_stories(pair, [[0, 0], [0, 0, 0, 0]])
(((0,), (1,)), None, ((0, 1), (1, 0)))
>>> crowd_number(pair, [[0, 0], [0, 0, 0, 0]], 2)
2
"""

DIALS = """
>>> from logsapart.dials import Dial, DialDesk, dial_place, logs_of, mark_of, who_last
>>> from logsapart.hands import Hands
>>> from logsapart.reading import is_left, read_from, story_of, tail_of
>>> dial = Dial(Hands((2, 3, 6)))
>>> dial.size, dial.arcs, dial_place(dial, (1, 2, 5)), who_last(dial, (0, 2, 0))
(6, ((0, 3), (3, 5), (5, 6)), 0, 1)
>>> mark_of(dial, (0, 0, 0), 2), logs_of(dial, (0, 2, 1, 1, 0))
(5, ((0, 1), (2, 2), (5,)))
>>> story_of(dial, ((0, 1), (2, 2), (5,))), is_left(dial, ((), (0,), ())), tail_of(dial, ((1,), (2, 2), (5,)))
((0, 2, 1, 1, 0), False, (0,))
>>> read_from(dial, (0, 0, 5), ((1,), (2, 2), ())), who_last(Dial(Hands([2, 4])), (1, 1))
((1, 1, 0), None)
>>> desk = DialDesk(Hands((2, 2)))
>>> desk.who(), desk.act(1), desk.who(), desk.act(1), desk.act(0), desk.last
(None, 1, 1, 1, 1, (1, 1))
"""

DIGITS = """
>>> from logsapart.digits import Digits, digit_logs, digit_story, least_number, step, step_back, who_at
>>> from logsapart.hands import Hands
>>> from logsapart.undoing import UndoDesk, fitting_places
>>> least_number(Hands((2, 3, 6))), least_number(Hands((3, 3))), least_number(Hands((2, 2, 3)))
(6, 2, None)
>>> digits = Digits(Hands((2, 3, 6)))
>>> digits.stretches, step(digits, 5, 1), who_at(digits, 4), step_back(digits, 4, 2)
(((0, 3), (3, 5), (5, 6)), (4, 2), 1, (1, 5))
>>> digit_logs(digits, (0, 2, 1, 1, 0)), digit_story(digits, 2, ((0, 0), (2, 1), (0,)))
((2, ((0, 0), (2, 1), (0,))), ((0, 2, 1, 1, 0), 0))
>>> fitting_places(digits, ((0,), (0,), ())), Digits(Hands((3, 3)), 4).stretches
((3,), ((0, 2), (2, 4)))
>>> desk = UndoDesk(Hands((2, 2)))
>>> desk.act(1), desk.act(0), desk.who_undoes(), desk.undo(1), desk.undo(0), desk.who_undoes(), desk.place
(0, 1, 0, 0, 1, None, 0)
"""

NUMBERS_AND_RIDERS = """
>>> from logsapart.hands import Hands
>>> from logsapart.rates import greatest_number, grow_logs, grow_step, grow_story, needed_numbers, resting_number, swallow_length
>>> from logsapart.riders import Carrier, carried_last, carry_logs, carry_story, most_riders, riders_share
>>> crowd = Hands([2, 2, 3])
>>> grow_logs(crowd, (0, 1, 2, 0)), grow_story(crowd, ((0, 1), (0,), (0,)), 8), grow_step(crowd, 7, 0)
((8, ((0, 1), (0,), (0,))), (0, (0, 1, 2, 0)), (8, 1))
>>> greatest_number(crowd, 3), needed_numbers(crowd, 9), needed_numbers(Hands([2, 2]), 1, riders=(1, 3))
(22, 2, 2)
>>> few = Hands([2, 3])
>>> resting_number(few), swallow_length(few, 1000), grow_step(few, 1000, 1), grow_step(few, 18, 1)
(18, 26, (834, 1), (18, 0))
>>> carrier = Carrier(Hands([2, 4]), (1, 2))
>>> logs = carry_logs(carrier, ((1, 1), (0, 0), (1, 0)))
>>> logs, carry_story(carrier, logs), carried_last(carrier, (1, 3)), carrier.arcs, riders_share(few, (1, 1)), most_riders(Hands([2, 4]), (1, 1), 1)
(((1,), (3, 0)), ((1, 1), (0, 0), (1, 0)), (0, 0), ((0, 2), (2, 4)), (5, 6), 2)
"""

TABLES_AND_MARKERS = """
>>> from logsapart.hands import Hands
>>> from logsapart.markers import Marker, clash_paper, is_reversible, marker_logs, marker_story, table_marker, two_stories
>>> from logsapart.tables import Table, bad_line, dial_table, table_logs, table_paper, table_story, table_who
>>> pair = Hands([2, 2])
>>> dial_table(pair).tells, table_who(dial_table(pair), (1, 0)), bad_line(Table(pair, (0, 1, 1, None)))
((0, 1, 1, 0), 1, (0, (0, 1)))
>>> table_logs(dial_table(pair), (0, 0, 1)), table_story(dial_table(pair), ((0, 0), (1,)))
(((0, 0), (1,)), (0, 0, 1))
>>> table_paper(pair, [((0, 0), None)])[0], table_paper(Hands([2, 3]), [((0, 0), None)])[0]
('lines', 'table')
>>> marker = Marker(pair, [((0, 0), (0, 1)), ((1, 0), (1, 1))])
>>> is_reversible(marker), marker_logs(marker, (1, 0, 0)), marker_story(marker, ((1, 0), (0,)), 0)
(True, (((1, 0), (0,)), 0), (1, 0, 0))
>>> plain = Marker(pair, [((0, 0), (0, 0))])
>>> clash_paper(plain), two_stories(plain, 4), two_stories(table_marker(dial_table(pair)), 4)
(('clash', (0, 0), (0, 1)), ('stories', (0, 1), (1, 0)), None)
"""

SEVERAL_HANDS = """
>>> from logsapart.flats import Flats, flat_lacking, flats_logs, flats_story
>>> from logsapart.hands import Hands
>>> from logsapart.kinds import Kinds, full_lengths, kinds_share, stories_leaving
>>> from logsapart.meets import Tally, kinds_number, meet, unmeet
>>> kinds = Kinds(Hands([2, 3, 1]), [[0], [0, 1], [1]])
>>> kinds.sizes, kinds_share(kinds), stories_leaving(kinds, (1, 1, 0))
((2, 6, 3), (1, 1), 3)
>>> full_lengths(Kinds(Hands([2, 2]), [[0], [0, 1], [1]]), most=100)
(3, 4)
>>> kinds_number(kinds, most=100), meet(Tally(kinds, 6), 5, 1), unmeet(Tally(kinds, 6), 3, (1, 2))
(6, (3, (1, 2)), (1, 5))
>>> flats = Flats(Kinds(Hands([2, 2]), [[0], [1]]), (0, 1, 1, 0))
>>> flats_logs(flats, (0, 0, 1)), flats_story(flats, ((0, 0), (1,))), flat_lacking(flats.kinds, (0, 1, 1, 1))
(((0, 0), (1,)), (0, 0, 1), (0, (0, 1)))
"""

PROTOCOLS = """
>>> from logsapart.hands import Hands
>>> from logsapart.knots import knot_sign, least_alike, least_for_hand, needed_room
>>> from logsapart.plans import Plan, fitting_standings, move_back, protocol_holds, protocol_paper, run_back, run_logs
>>> from logsapart.protocols import Turns
>>> box = Turns(Hands((2, 3)), 2, [(0, 0, 1), (0, 1, 1), (1, 1, 0), (1, 1, 0)])
>>> protocol_paper(box), knot_sign(box, (0, 1))
(('numbers', (2, 2)), -1)
>>> plan = Plan(box)
>>> plan.stretches, run_logs(plan, (0, 2, 1, 3)), run_back(plan, 0, 1, ((0,), (0, 0, 0)))
((((0, 0), (0, 2)), ((0, 1), (1, 2))), (0, 1, ((0,), (0, 0, 0))), ((0, 2, 1, 3), 0, 0))
>>> move_back(plan, 0, 1, 0), fitting_standings(plan, ((0,), (0, 0, 0))), least_alike(box), least_for_hand(box, 0), least_for_hand(box, 1)
((3, 1, 1), ((0, 1),), 2, 1, 2)
>>> open_end = Turns(Hands((1, 1, 1)), 2, [(0, 0, 0), (0, 2, 1), (1, 1, 1)])
>>> protocol_paper(open_end)[0], protocol_holds(open_end, ("weights", (0, 1))), knot_sign(open_end, (1,))
('weights', True, 0)
>>> needed_room(Turns(Hands((1, 1)), 1, [(0, 0, 0), (0, 1, 0)]), 4)
(6, 0, (2, 2))
"""

FEWEST_LOGS_AND_CROWDS = """
>>> from logsapart.hands import Hands
>>> from logsapart.weights import least_marks, log_number, weight_bounds
>>> least_marks((3, 1, 2)), log_number(Hands([2, 6, 3]), (3, 1, 2)), weight_bounds((3, 1, 2))
((2, 6, 3), 432, (46656, 108))
>>> from logsapart.tight import is_tight, tight_marks
>>> tight_marks(3), is_tight(Hands([2, 5, 7, 7])), is_tight(Hands([2, 3, 7]))
(((2, 3, 6), (2, 4, 4), (3, 3, 3)), True, False)
>>> from logsapart.epochs import Crowd, Roll, fewest_epochs, full_runs
>>> from logsapart.journals import cut_pages, journal_of, resumed, with_entry
>>> crowd = Crowd([2, 3, 6, 2])
>>> roll = Roll(crowd)
>>> [roll.act(guest) for guest in (0, 1, 3, 1, 3, 2)]
[(0, 0, 0), (0, 1, 2), (1, 0, 0), (1, 1, 2), (1, 0, 1), (1, 2, 4)]
>>> roll.there, roll.last, roll.who(), fewest_epochs(crowd, (0, 1, 3, 1, 3, 2)), full_runs(crowd, (0, 1, 3, 1, 3, 2))
((3, 1, 2), (1, 2, 4), 2, (0, 2), ((0, 3),))
>>> logs = (((0, 0, (0,)),), ((0, 1, (2,)), (1, 1, (2,))), ((1, 2, (4,)),), ((1, 0, (0, 1)),))
>>> journal_of(crowd, logs), journal_of(crowd, cut_pages(crowd, logs, 1))
((0, ((0, 1), (3, 1, 3, 2))), (1, ((3, 1, 3, 2),)))
>>> resumed(crowd, logs).act(1), with_entry(logs[1], 1, 1, 0)
((1, 1, 1), ((0, 1, (2,)), (1, 1, (2, 0))))
"""

LOSSES = """
>>> from logsapart.dials import Dial, logs_of
>>> from logsapart.hands import Hands
>>> from logsapart.losses import fit_number, fit_numbers, fit_place, fit_story, noticed_tails
>>> dial = Dial(Hands([2, 2]))
>>> logs_of(dial, (0, 1, 0, 0))
((0, 1, 1), (1,))
>>> fit_number(dial, ((0,), (1,)), (2, 0)), fit_story(dial, ((0,), (1,)), (2, 0), 1)
(3, (0, 0, 1, 0))
>>> fit_place(dial, ((0,), (1,)), (2, 0), (0, 1, 0, 0)), fit_numbers(dial, ((0,), (1,)), 0, 2)
(2, (1, 2, 3))
>>> noticed_tails(dial, ((0, 1, 1), (1,)), 0), noticed_tails(dial, ((0, 1, 1), (1,)), 1)
((), (1,))
"""

STORES = """
>>> from logsapart.desk import Desk
>>> from logsapart.hands import Hands
>>> from logsapart.since import Witness, is_ahead, is_rest, rest_order, since_logs, sure_length
>>> from logsapart.store import Store, deeds_of, mended_sheet
>>> store = Store(Hands((2, 3, 6)), (0, 0))
>>> store.put(1, 0, 7), store.put(2, 0, 9), store.put(0, 1, 4), store.undo_last(), store.undo_last()
(2, 1, 1, 0, 2)
>>> store.sheet()
((7, 0), ((), ((2, 0, 0, 7),), ()), (((0, 1, 0, 4),), (), ((5, 0, 7, 9),)))
>>> store.who_undoes(), store.who_redoes(), deeds_of(store.hands, store.sheet())
(1, 2, ((0, 0), ((1, 0, 7),), ((2, 0, 9), (0, 1, 4))))
>>> mended_sheet(store.hands, ((9, 0), store.done, store.undone)) == store.sheet(), store.redo_next(), store.cells
(True, 2, (9, 0))
>>> hands = Hands((4, 4, 4))
>>> since_logs(hands, (0, 1, 0, 2, 1)), rest_order(hands, ((0, 1), (1,), ())), sure_length(hands, ((0, 1), (1,), ()))
(((0, 1), (1, 3), (3,)), (0, 1, 0), 2)
>>> is_ahead(hands, ((0, 1), (1,), ()), (1, 0), (0, 1)), is_rest(hands, ((0,), (0,), ()))
(True, False)
>>> witness = Witness(Hands((2, 2)))
>>> witness.act(1), witness.act(0), witness.act(0), witness.since
(0, 1, 0, ((), (0,)))
>>> desk = Desk("hands 2 2\\ncells 0 5")
>>> [desk.say(line) for line in ("put 1 0 3", "put 0 0 4", "undo", "anew", "who", "deeds", "left", "put 2 0 1", "cells")]
['1', '1', '0', 'ok', '1 0', '1 0 3', '0 0 4', 'refused', '3 5']
"""


def failures(text):
    """What differs from the text when its lines are run."""
    lines = []
    test = doctest.DocTestParser().get_doctest(text, {}, "example", None, None)
    doctest.DocTestRunner(verbose=False).run(test, out=lines.append)
    return "".join(lines)


class Examples(unittest.TestCase):
    def test_overview(self):
        self.assertEqual("", failures(OVERVIEW))

    def test_hands_and_logs(self):
        self.assertEqual("", failures(HANDS_AND_LOGS))

    def test_court(self):
        self.assertEqual("", failures(COURT))

    def test_dials(self):
        self.assertEqual("", failures(DIALS))

    def test_digits(self):
        self.assertEqual("", failures(DIGITS))

    def test_numbers_and_riders(self):
        self.assertEqual("", failures(NUMBERS_AND_RIDERS))

    def test_tables_and_markers(self):
        self.assertEqual("", failures(TABLES_AND_MARKERS))

    def test_several_hands(self):
        self.assertEqual("", failures(SEVERAL_HANDS))

    def test_protocols(self):
        self.assertEqual("", failures(PROTOCOLS))

    def test_fewest_logs_and_crowds(self):
        self.assertEqual("", failures(FEWEST_LOGS_AND_CROWDS))

    def test_losses(self):
        self.assertEqual("", failures(LOSSES))

    def test_stores(self):
        self.assertEqual("", failures(STORES))


if __name__ == "__main__":
    unittest.main()
