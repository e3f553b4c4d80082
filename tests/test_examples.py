"""The examples that the document shows, as they stand there."""

import doctest
import unittest

HANDS_AND_LOGS = """
>>> from logsapart.hands import Hands, hands_more, new_marks, room, share
>>> from logsapart.logs import laid_logs, last_marks, marks_along, story_counts, struck_logs
>>> from logsapart.texts import hands_text, logs_text
>>> hands = Hands([2, 4, 6])
>>> share(hands), room(hands), new_marks(hands), hands_more(hands, 24), hands_text(hands)
((11, 12), (1, 12), 12, 2, 'hands 2 4 6')
>>> logs = laid_logs(hands, (2, 0, 2, 2), (5, 1, 0, 3))
>>> logs, last_marks(hands, logs), story_counts(hands, (2, 0, 2, 2)), marks_along(hands, (0, 2, 2, 2), logs)
(((1,), (), (5, 0, 3)), (1, 0, 3), (1, 0, 3), (1, 5, 0, 3))
>>> struck_logs(hands, logs, 2), logs_text(hands, logs)
(((1,), (), (5, 0)), '1\\n-\\n5 0 3')
"""


def failures(text):
    """What differs from the text when its lines are run."""
    lines = []
    test = doctest.DocTestParser().get_doctest(text, {}, "example", None, None)
    doctest.DocTestRunner(verbose=False).run(test, out=lines.append)
    return "".join(lines)


class Examples(unittest.TestCase):
    def test_hands_and_logs(self):
        self.assertEqual("", failures(HANDS_AND_LOGS))


if __name__ == "__main__":
    unittest.main()
