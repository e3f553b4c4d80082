"""The examples that the document shows, as they stand there."""

import doctest
import unittest

OVERVIEW = """
>>> from logsapart.dials import Dial, logs_of
>>> from logsapart.hands import Hands, share
>>> from logsapart.reading import story_of
>>> hands = Hands((2, 3, 6))
>>> share(hands), logs_of(Dial(hands), (0, 2, 1, 1, 0))
((1, 1), ((0, 1), (2, 2), (5,)))
>>> story_of(Dial(hands), ((0, 1), (2, 2), (5,)))
(0, 2, 1, 1, 0)
"""

HANDS_AND_LOGS = """
>>> from logsapart.hands import Hands, hands_more, new_marks, room, share
>>> from logsapart.logs import laid_logs, last_marks, marks_along, story_counts, struck_logs
>>> from logsapart.texts import hands_text, logs_text
>>> hands = Hands([2, 4, 6])
>>> share(hands), room(hands), new_marks(hands), hands_more(hands, 24), hands_text(hands)
((11, 12), (1, 12), 12, 2, 'hands 2 4 6')
>>> logs = laid_logs(hands, (2, 0, 2, 2), (5, 1, 0, 3))
>>> logs, last_marks(hands, logs), story_counts(hands, (2, 0, 2, 2)), marks_along(hands, (0, 2, 2, 2), logs)
(((1,), (), (5, 0, 3)), (1, 0, 3), (1, 0, 3), (1, 5, 0, 3))
>>> struck_logs(hands, logs, 2), logs_text(hands, logs)
(((1,), (), (5, 0)), '1\\n-\\n5 0 3')
"""

COURT = """
>>> from logsapart.counts import logs_number, nth_story, story_number, story_place
>>> from logsapart.court import book_logs, court_paper, crowd_bound, crowd_number, least_failing, twin_stories
>>> from logsapart.hands import Hands
>>> pair, three = Hands([2, 2]), Hands([2, 2, 3])
>>> story_number(three, (4, 3, 2)), logs_number(three, (4, 3, 2)), least_failing(three), court_paper(pair)
(1260, 1152, 9, ('tells', (1, 1)))
>>> nth_story(pair, (2, 1), 1), story_place(pair, (1, 0, 0)), crowd_bound(three, 12)
((0, 1, 0), ((2, 1), 2), 3)
>>> swap = [[1, 1], [1, 0, 0, 1]]
>>> book_logs(pair, swap, (1, 0)), twin_stories(pair, swap), twin_stories(pair, [[0, 0], [0, 0, 0, 0]])
(((0,), (1,)), None, ((0, 1), (1, 0)))
>>> crowd_number(pair, [[0, 0], [0, 0, 0, 0]], 2)
2
"""

DIALS = """
>>> from logsapart.dials import Dial, DialDesk, dial_place, logs_of, mark_of, who_last
>>> from logsapart.hands import Hands
>>> from logsapart.reading import is_left, read_from, story_of, tail_of
>>> dial = Dial(Hands((2, 3, 6)))
>>> dial.size, dial.arcs, dial_place(dial, (1, 2, 5)), who_last(dial, (0, 2, 0))
(6, ((0, 3), (3, 5), (5, 6)), 0, 1)
>>> mark_of(dial, (0, 0, 0), 2), logs_of(dial, (0, 2, 1, 1, 0))
(5, ((0, 1), (2, 2), (5,)))
>>> story_of(dial, ((0, 1), (2, 2), (5,))), is_left(dial, ((), (0,), ())), tail_of(dial, ((1,), (2, 2), (5,)))
((0, 2, 1, 1, 0), False, (0,))
>>> read_from(dial, (0, 0, 5), ((1,), (2, 2), ())), who_last(Dial(Hands([2, 4])), (1, 1))
((1, 1, 0), None)
>>> desk = DialDesk(Hands((2, 2)))
>>> desk.who(), desk.act(1), desk.who(), desk.act(1), desk.act(0), desk.last
(None, 1, 1, 1, 1, (1, 1))
"""

# Of the last line of this example that part alone which is about the module digits.
DIGITS = """
>>> from logsapart.digits import Digits, digit_logs, digit_story, least_number, step, step_back, who_at
>>> from logsapart.hands import Hands
>>> least_number(Hands((2, 3, 6))), least_number(Hands((3, 3))), least_number(Hands((2, 2, 3)))
(6, 2, None)
>>> digits = Digits(Hands((2, 3, 6)))
>>> digits.stretches, step(digits, 5, 1), who_at(digits, 4), step_back(digits, 4, 2)
(((0, 3), (3, 5), (5, 6)), (4, 2), 1, (1, 5))
>>> digit_logs(digits, (0, 2, 1, 1, 0)), digit_story(digits, 2, ((0, 0), (2, 1), (0,)))
((2, ((0, 0), (2, 1), (0,))), ((0, 2, 1, 1, 0), 0))
>>> Digits(Hands((3, 3)), 4).stretches
((0, 2), (2, 4))
"""


def failures(text):
    """What differs from the text when its lines are run."""
    lines = []
    test = doctest.DocTestParser().get_doctest(text, {}, "example", None, None)
    doctest.DocTestRunner(verbose=False).run(test, out=lines.append)
    return "".join(lines)


class Examples(unittest.TestCase):
    def test_overview(self):
        self.assertEqual("", failures(OVERVIEW))

    def test_hands_and_logs(self):
        self.assertEqual("", failures(HANDS_AND_LOGS))

    def test_court(self):
        self.assertEqual("", failures(COURT))

    def test_dials(self):
        self.assertEqual("", failures(DIALS))

    def test_digits(self):
        self.assertEqual("", failures(DIGITS))


if __name__ == "__main__":
    unittest.main()
