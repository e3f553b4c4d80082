"""Point 49: pages and logs of guests, entries, journals read back, pages cut, and rolls made anew."""

import random
import unittest
from itertools import product

from logsapart.epochs import Crowd, Roll, fewest_epochs
from logsapart.errors import BadLogs, Refused
from logsapart.journals import check_pages, cut_pages, journal_of, resumed, with_entry
from support import Raising, any_values, is_deep_tuple, not_of_length
from test_epochs import FOUR, PlainRoll, crowds, random_story, state

LOGS = (((0, 0, (0,)),), ((0, 1, (2,)), (1, 1, (2,))), ((1, 2, (4,)),), ((1, 0, (0, 1)),))


def plain_pages(crowd, story, first=0):
    """The pages that a roll leaves, by a dict of all entries."""
    roll, told = PlainRoll(crowd, first), [{} for _ in crowd.marks]
    for guest in story:
        epoch, rank, mark = roll.act(guest)
        told[guest].setdefault((epoch, rank), []).append(mark)
    return tuple(
        tuple((epoch, rank, tuple(marks)) for (epoch, rank), marks in sorted(pages.items())) for pages in told
    )


def parts(crowd, story):
    """A story cut where its epochs begin."""
    begins = fewest_epochs(crowd, story)
    return tuple(tuple(story[first:end]) for first, end in zip(begins, (*begins[1:], len(story))))


def lists(value):
    return [lists(item) for item in value] if isinstance(value, tuple) else value


class Pages(Raising, unittest.TestCase):
    def test_right_ones(self):
        self.assertEqual(LOGS, check_pages(FOUR, lists(LOGS)))
        self.assertTrue(is_deep_tuple(check_pages(crowd=FOUR, logs=lists(LOGS))))
        self.assertEqual(((), (), (), ()), check_pages(FOUR, [[], (), [], ()]))
        # They need not be what a roll leaves.
        odd = (((3, 7, (1, 1)), (10 ** 30, 0, (0,))), (), (), ())
        self.assertEqual(odd, check_pages(FOUR, odd))

    def test_as_long_as_can_be(self):
        crowd = Crowd((1,))
        full = (((0, 0, (0,) * 10000),),)
        self.assertEqual(full, check_pages(crowd, full))
        self.must_raise(BadLogs, 0, check_pages, crowd, (((0, 0, (0,) * 10001),),))
        many = (tuple((epoch, 0, (0,)) for epoch in range(10000)),)
        self.assertEqual(many, check_pages(crowd, many))
        self.must_raise(BadLogs, 0, check_pages, crowd, (many[0] + ((10000, 0, (0,)),),))
        self.assertEqual((0, ((0,) * 10000,)), journal_of(crowd, full))

    def test_wrong_ones(self):
        pages = [value for value in any_values()] + [
            (0, 0), (0, 0, ()), (0, 0, (2,)), (0, 0, (0,), 0), (-1, 0, (0,)), (0, -1, (0,)), (True, 0, (0,)), (0, False, (0,)),
            (0, 0, 0), (0, 0, None), (0, 0, (True,)), (0, 0, (0, None)), (0, 0, "0"),
        ]
        for call in (check_pages, journal_of, resumed, lambda crowd, logs: cut_pages(crowd, logs, None)):
            for value in not_of_length(4):
                self.must_raise(BadLogs, -1, call, FOUR, value)
            for page in pages:
                self.must_raise(BadLogs, 0, call, FOUR, ([page], None, None, None))
                self.must_raise(BadLogs, 3, call, FOUR, ((), (), (), [(0, 0, [0]), page]))
            for value in any_values():
                if value not in ((), []):
                    self.must_raise(BadLogs, 2, call, FOUR, ((), (), value, None))
            # Epochs that do not ascend.
            for epochs in ((1, 1), (2, 1), (0, 1, 1)):
                log = tuple((epoch, 0, (0,)) for epoch in epochs)
                self.must_raise(BadLogs, 1, call, FOUR, ((), log, (), ()))


class Entries(unittest.TestCase):
    def test_in_the_last_page_or_in_a_new_one(self):
        self.assertEqual(((0, 1, (2,)),), with_entry((), 0, 1, 2))
        self.assertEqual(((0, 1, (2, 0)),), with_entry([[0, 1, [2]]], 0, 1, 0))
        self.assertEqual(((0, 1, (2,)), (1, 0, (1,))), with_entry(log=((0, 1, (2,)),), epoch=1, rank=0, mark=1))
        # The rank of a page that is there stays.
        self.assertEqual(((4, 1, (2, 2)),), with_entry([(4, 1, [2])], 4, 9, 2))
        self.assertTrue(is_deep_tuple(with_entry([[0, 1, [2]], [3, 0, [1]]], 3, 0, 0)))
        page = (0, 0, (0,) * 9999)
        self.assertEqual(((0, 0, (0,) * 10000),), with_entry((page,), 0, 0, 0))
        log = [[0, 1, [2]]]
        with_entry(log, 0, 1, 0)
        self.assertEqual([[0, 1, [2]]], log)

    def test_entry_by_entry(self):
        source = random.Random(77)
        for crowd in crowds():
            story = random_story(source, crowd, 40)
            roll, logs = Roll(crowd, 5), [()] * crowd.many
            for guest in story:
                logs[guest] = with_entry(logs[guest], *roll.act(guest))
            self.assertEqual(plain_pages(crowd, story, 5), tuple(logs))


class Journals(Raising, unittest.TestCase):
    def test_read_back(self):
        source = random.Random(78)
        epochs = set()
        for crowd in crowds():
            for length in (0, 1, 2, 9, 60):
                story = random_story(source, crowd, length)
                first = source.choice((0, 1, 10 ** 6))
                logs = plain_pages(crowd, story, first)
                told = journal_of(crowd, lists(logs))
                self.assertEqual((first, parts(crowd, story)) if story else (0, ()), told)
                self.assertTrue(is_deep_tuple(told))
                epochs.add(len(told[1]))
        self.assertTrue({0, 1, 2, 3} <= epochs)

    def test_no_pages(self):
        self.assertEqual((0, ()), journal_of(crowd=FOUR, logs=[(), [], (), ()]))
        self.assertEqual((FOUR, 0, (), ()), state(resumed(FOUR, ((), (), (), ()))))

    def test_all_small_logs(self):
        # All pages of two guests with at most three entries together: just those are read that some story leaves.
        for marks in ((2, 2), (1, 2), (2, 3)):
            crowd = Crowd(marks)
            left = {}
            for length in range(4):
                for story in product(range(2), repeat=length):
                    for first in (0, 1) if length else (0,):
                        left[plain_pages(crowd, story, first)] = (first, parts(crowd, story))
            read = 0
            for logs in self.small_logs(marks):
                if logs in left:
                    self.assertEqual(left[logs], journal_of(crowd, logs))
                    read += 1
                else:
                    self.must_raise(Refused, logs, journal_of, crowd, logs)
                    self.must_raise(Refused, logs, resumed, crowd, logs)
            self.assertGreater(read, 9)

    def small_logs(self, marks):
        options = []
        for many in marks:
            pages = [
                (epoch, rank, told) for epoch in (0, 1) for rank in (0, 1)
                for length in (1, 2) for told in product(range(many), repeat=length)
            ]
            logs = [(), *[(page,) for page in pages]]
            logs += [(one, other) for one, other in product(pages, repeat=2) if one[0] < other[0] and len(one[2] + other[2]) < 4]
            options.append(logs)
        return [
            logs for logs in product(*options) if sum(len(page[2]) for log in logs for page in log) <= 3
        ]

    def test_logs_that_are_changed(self):
        source = random.Random(79)
        refused = 0
        for crowd in crowds():
            story = random_story(source, crowd, 30)
            logs = plain_pages(crowd, story)
            for _ in range(15):
                changed = self.changed(source, crowd, logs)
                told = self.journal_or_none(crowd, changed)
                if told is None:
                    self.must_raise(Refused, changed, journal_of, crowd, changed)
                    refused += 1
                else:
                    first, stories = told
                    self.assertEqual(changed, plain_pages(crowd, sum(stories, ()), first))
        self.assertGreater(refused, 100)

    def changed(self, source, crowd, logs):
        rows = lists(logs)
        guest = source.choice([guest for guest, log in enumerate(rows) if log])
        at = source.randrange(len(rows[guest]))
        page = rows[guest][at]
        kind = source.randrange(5)
        if kind == 0:
            del rows[guest][at]
        elif kind == 1:
            page[1] = source.randrange(4)
        elif kind == 2:
            page[2][source.randrange(len(page[2]))] = source.randrange(crowd.marks[guest])
        elif kind == 3:
            page[2] = page[2][:-1] or [0, 0]
        else:
            for log in rows:
                for other in log:
                    other[0] += 3
        return tuple(tuple((epoch, rank, tuple(marks)) for epoch, rank, marks in log) for log in rows)

    def journal_or_none(self, crowd, logs):
        try:
            return journal_of(crowd, logs)
        except Refused:
            return None

    def test_epochs_must_follow_one_another(self):
        logs = plain_pages(FOUR, (0, 1, 3, 1, 3, 2))
        self.assertEqual(LOGS, logs)
        for value in (
            # An epoch is left out; the second one begins though all guests found room; a rank is twice there.
            (((0, 0, (0,)),), ((0, 1, (2,)), (2, 1, (2,))), ((2, 2, (4,)),), ((2, 0, (0, 1)),)),
            (((0, 0, (0,)),), ((0, 1, (2,)), (1, 0, (0,))), (), ()),
            (((0, 0, (0,)),), ((0, 0, (2,)),), (), ()),
            (((0, 0, (0,)),), ((0, 2, (2,)),), (), ()),
            (((0, 1, (0,)),), (), (), ()),
        ):
            self.must_raise(Refused, value, journal_of, FOUR, value)
            self.must_raise(Refused, value, resumed, FOUR, value)

    def test_an_arc_too_many(self):
        # Two guests with 2 marks fill the ring; a third one in their epoch can come from no roll.
        crowd = Crowd((2, 2, 2))
        for marks in product(range(2), repeat=3):
            logs = tuple(((0, rank, (mark,)),) for rank, mark in enumerate(marks))
            self.must_raise(Refused, logs, journal_of, crowd, logs)

    def test_to_the_limits(self):
        source = random.Random(80)
        crowd = Crowd([source.choice((1, 2, 3, 30, 59, 60)) for _ in range(40)])
        story = random_story(source, crowd, 400)
        while len(fewest_epochs(crowd, story)) > 40:
            story = story[:-10]
        self.assertEqual((10 ** 6, parts(crowd, story)), journal_of(crowd, plain_pages(crowd, story, 10 ** 6)))
        many = Crowd((59,) * 40)
        story = tuple(source.randrange(40) for _ in range(400))
        self.assertEqual((0, (story,)), journal_of(many, plain_pages(many, story)))


class CuttingAndResuming(Raising, unittest.TestCase):
    def test_cut_ahead_of_each_epoch(self):
        source = random.Random(81)
        for crowd in crowds():
            story = random_story(source, crowd, 40)
            first = source.choice((0, 3))
            logs = plain_pages(crowd, story, first)
            told = parts(crowd, story)
            for epoch in range(first + len(told) + 2):
                cut = cut_pages(crowd, lists(logs), epoch)
                self.assertTrue(is_deep_tuple(cut))
                self.assertEqual(tuple(tuple(page for page in log if page[0] >= epoch) for log in logs), cut)
                gone = max(epoch - first, 0)
                expected = (max(epoch, first), told[gone:]) if gone < len(told) else (0, ())
                self.assertEqual(expected, journal_of(crowd, cut))

    def test_wrong_epochs(self):
        for value in any_values():
            self.must_raise(Refused, value, cut_pages, FOUR, LOGS, value)
        self.assertEqual(LOGS, cut_pages(crowd=FOUR, logs=LOGS, epoch=0))
        self.assertEqual(((), (), (), ()), cut_pages(FOUR, LOGS, 10 ** 30))

    def test_a_roll_made_anew_goes_on(self):
        source = random.Random(82)
        for crowd in crowds():
            story = random_story(source, crowd, 40)
            for at in (0, 1, 7, 20, 40):
                roll, logs = Roll(crowd, 2), [()] * crowd.many
                for guest in story[:at]:
                    logs[guest] = with_entry(logs[guest], *roll.act(guest))
                if at > 0:
                    # The pages of the present epoch alone are enough.
                    for told in (tuple(logs), cut_pages(crowd, logs, roll.epoch)):
                        anew = resumed(crowd=crowd, logs=told)
                        self.assertEqual(state(roll), state(anew))
                        self.assertEqual(roll.who(), anew.who())
                        other = Roll(crowd, 2)
                        for guest in story[:at]:
                            other.act(guest)
                        self.assertEqual([other.act(guest) for guest in story[at:]], [anew.act(guest) for guest in story[at:]])
                else:
                    self.assertEqual((crowd, 0, (), ()), state(resumed(crowd, logs)))


if __name__ == "__main__":
    unittest.main()
