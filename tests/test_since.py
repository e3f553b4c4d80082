"""Points 58 and 59: entries that name who acted since, and what they tell though newest ones are lost."""

import random
import unittest
from itertools import product

from logsapart.errors import BadLogs, BadStory, NoHand, Refused
from logsapart.hands import Hands
from logsapart.since import Witness, is_ahead, is_rest, rest_order, since_logs, sure_length
from support import Raising, all_logs, any_values, is_deep_tuple, not_of_length, raised

PAIR = Hands((2, 2))
THREE = Hands((4, 4, 4))
FOUR = Hands((8, 8, 8, 8))


def needed(many):
    return 2 ** (many - 1)


def hands_of(many, more=0):
    return Hands([needed(many) + more] * many)


def plain_mark(story, at):
    """The mark of a deed by looking back through the story to the hand's entry ahead."""
    hand = story[at]
    since = set()
    for other in reversed(story[:at]):
        if other == hand:
            break
        since.add(other)
    return since


def plain_logs(many, story):
    logs = [[] for _ in range(many)]
    for at, hand in enumerate(story):
        others = [other for other in range(many) if other != hand]
        logs[hand].append(sum(2 ** others.index(other) for other in plain_mark(story, at)))
    return tuple(map(tuple, logs))


def mark_for(many, hand, members):
    others = [other for other in range(many) if other != hand]
    return sum(2 ** others.index(other) for other in members)


def all_that_can_have_happened(many, logs):
    """All (order of the entries left, how many of them were ahead of the first lost deed), of stories of which logs are a rest.

    Deeds are done one after another in all ways: a hand's next deed is its next entry left, with the right mark, or,
    behind these, a lost one. Told apart are moments at which others have acted since, entries are written, or the
    first lost deed is done elsewhere.
    """
    begin = ((frozenset(),) * many, (), None)
    known, waiting, ends = {begin}, [begin], set()
    entries = sum(map(len, logs))
    while waiting:
        since, order, lost = waiting.pop()
        if len(order) == entries:
            ends.add((order, entries if lost is None else lost))
        for hand in range(many):
            written = order.count(hand)
            if written < len(logs[hand]):
                if logs[hand][written] != mark_for(many, hand, since[hand]):
                    continue
                behind = order + (hand,), lost
            else:
                behind = order, len(order) if lost is None else lost
            after = tuple(frozenset() if at == hand else others | {hand} for at, others in enumerate(since))
            if (after, *behind) not in known:
                known.add((after, *behind))
                waiting.append((after, *behind))
    return ends


def cut_logs(source, logs, share=2):
    """Logs of which some have lost newest entries."""
    return tuple(log[:source.randrange(len(log) + 1)] if source.randrange(share) else log for log in logs)


def lists(value):
    return [list(item) for item in value]


class Hearing(Raising, unittest.TestCase):
    def test_marks_by_looking_back(self):
        for many in (2, 3):
            for length in range(7 if many == 2 else 6):
                for story in product(range(many), repeat=length):
                    self.check(hands_of(many), story)
        source = random.Random(120)
        for many, more in ((4, 0), (4, 3), (5, 0), (6, 0), (6, 28)):
            for _ in range(20):
                self.check(hands_of(many, more), [source.randrange(many) for _ in range(40)])

    def check(self, hands, story):
        logs = plain_logs(hands.many, story)
        self.assertEqual(logs, since_logs(hands, list(story)))
        witness = Witness(hands)
        read = [0] * hands.many
        for at, hand in enumerate(story):
            self.assertEqual(logs[hand][read[hand]], witness.act(hand))
            read[hand] += 1
            for other in range(hands.many):
                told = plain_mark((*story[:at + 1], other), at + 1)
                self.assertEqual(tuple(sorted(told)), witness.since[other])
        self.assertTrue(is_deep_tuple(witness.since))

    def test_begin_and_results(self):
        witness = Witness(hands=THREE)
        self.assertEqual((THREE, ((), (), ())), (witness.hands, witness.since))
        self.assertEqual((0, ((1,), (), (1,))), (witness.act(hand=1), witness.since))
        self.assertEqual(((), (), ()), since_logs(hands=THREE, story=()))
        self.assertTrue(is_deep_tuple(since_logs(THREE, [0, 1])))
        story = [at % 3 for at in range(300)]
        self.assertEqual(plain_logs(3, story), since_logs(THREE, story))

    def test_too_few_marks(self):
        calls = (Witness,), (since_logs, None), (is_rest, None), (rest_order, None), (sure_length, None), (is_ahead, None, None, None)
        for marks in ((1, 2), (2, 1), (4, 4, 3), (3, 60, 60), (8, 8, 8, 7), (60,) * 7, (60,) * 8, (31, 32, 32, 32, 32, 32)):
            hands = Hands(marks)
            for call, *rest in calls:
                self.must_raise(Refused, hands, call, hands, *rest)
        # Just as many are enough; of the share nothing is asked.
        for many in (2, 3, 4, 5, 6):
            self.assertEqual(hands_of(many), Witness(hands_of(many)).hands)
        self.assertEqual(((0,), (1,)), since_logs(Hands((2, 60)), (0, 1)))

    def test_wrong_hands_and_stories(self):
        witness = Witness(PAIR)
        witness.act(1)
        for value in any_values() + [2, 10 ** 30]:
            self.must_raise(NoHand, value, witness.act, value)
            self.must_raise(BadStory, 1, since_logs, PAIR, (0, value, None))
        self.assertEqual(((1,), ()), witness.since)
        self.must_raise(BadStory, -1, since_logs, PAIR, None)
        self.must_raise(BadStory, -1, since_logs, PAIR, [0] * 10001)


class Rests(Raising, unittest.TestCase):
    def check(self, hands, logs):
        """Whether these logs are a rest, after all is held against all that can have happened."""
        ends = all_that_can_have_happened(hands.many, logs)
        self.assertIs(bool(ends), is_rest(hands, lists(logs)), logs)
        if not ends:
            for call, *rest in ((rest_order,), (sure_length,), (is_ahead, None, None)):
                self.must_raise(Refused, logs, call, hands, logs, *rest)
            return False
        orders = {order for order, _ in ends}
        # The order is the same in all these stories.
        self.assertEqual({rest_order(hands, lists(logs))}, orders)
        self.assertEqual(min(lost for _, lost in ends), sure_length(hands, logs))
        return True

    def test_two_hands_by_all_that_can_have_happened(self):
        found = [self.check(PAIR, logs) for logs in all_logs(PAIR, 6)]
        self.assertGreater(min(found.count(True), found.count(False)), 100)

    def test_three_hands_by_all_that_can_have_happened(self):
        found = [self.check(THREE, logs) for logs in all_logs(THREE, 3)]
        self.assertGreater(min(found.count(True), found.count(False)), 100)

    def test_logs_of_stories_cut(self):
        source = random.Random(121)
        sure = set()
        for many in (3, 4):
            for _ in range(150):
                story = [source.randrange(many) for _ in range(source.randrange(9))]
                logs = cut_logs(source, plain_logs(many, story))
                self.assertTrue(self.check(hands_of(many), logs))
                sure.add(sure_length(hands_of(many), logs))
        self.assertTrue({0, 1, 2, 3, 4, 5} <= sure)

    def test_logs_with_a_mark_changed(self):
        source = random.Random(122)
        found = []
        for many in (2, 3, 4):
            for _ in range(120):
                story = [source.randrange(many) for _ in range(source.randrange(1, 8))]
                logs = [list(log) for log in cut_logs(source, plain_logs(many, story), 3)]
                hand = source.randrange(many)
                if logs[hand]:
                    logs[hand][source.randrange(len(logs[hand]))] = source.randrange(needed(many))
                found.append(self.check(hands_of(many), tuple(map(tuple, logs))))
        self.assertGreater(min(found.count(True), found.count(False)), 50)

    def test_marks_that_stand_for_no_set(self):
        wide = Hands((60, 60, 60))
        self.assertTrue(is_rest(wide, ((0, 1), (1,), ())))
        for logs in (((4,), (), ()), ((0, 59), (1,), ()), ((0,), (1,), (7,))):
            self.assertIs(False, is_rest(wide, logs))
            self.must_raise(Refused, logs, rest_order, wide, logs)
        self.assertIs(False, is_rest(Hands((2, 3)), ((), (2,))))

    def test_no_entries(self):
        for hands in (PAIR, THREE, FOUR):
            logs = ((),) * hands.many
            self.assertIs(True, is_rest(hands=hands, logs=logs))
            self.assertEqual(((), 0), (rest_order(hands=hands, logs=logs), sure_length(hands=hands, logs=logs)))

    def test_whole_logs(self):
        source = random.Random(123)
        for many in (2, 3, 4, 5, 6):
            for _ in range(15):
                story = tuple(source.randrange(many) for _ in range(60))
                logs = plain_logs(many, story)
                self.assertEqual(story, rest_order(hands_of(many), logs))
                # A lost deed comes behind all entries of its own hand.
                first_end = min(60 - story[::-1].index(hand) for hand in range(many))
                self.assertGreaterEqual(sure_length(hands_of(many), logs), first_end)

    def test_long_stories_with_60_entries_left(self):
        source = random.Random(124)
        for many in (2, 3, 4, 6):
            for _ in range(15):
                story = [source.randrange(many) for _ in range(300)]
                logs = plain_logs(many, story)
                kept = [source.randrange(60 // many + 1) for _ in range(many)]
                left = tuple(log[:most] for log, most in zip(logs, kept))
                hands = hands_of(many)
                self.assertTrue(is_rest(hands, left))
                order, read = [], [0] * many
                first_lost = None
                for at, hand in enumerate(story):
                    if read[hand] < len(left[hand]):
                        order.append(hand)
                        read[hand] += 1
                    elif first_lost is None:
                        first_lost = at
                self.assertEqual(tuple(order), rest_order(hands, left))
                self.assertLessEqual(sure_length(hands, left), first_lost)

    def test_more_lost_leave_less_sure(self):
        source = random.Random(125)
        for _ in range(60):
            story = [source.randrange(3) for _ in range(12)]
            logs = plain_logs(3, story)
            hand = source.randrange(3)
            fewer = tuple(log[:-1] if at == hand else log for at, log in enumerate(logs))
            self.assertLessEqual(sure_length(THREE, fewer), sure_length(THREE, logs))

    def test_wrong_logs(self):
        for call, *rest in ((is_rest,), (rest_order,), (sure_length,), (is_ahead, None, None)):
            for value in not_of_length(3):
                self.must_raise(BadLogs, -1, call, THREE, value, *rest)
            for value in any_values():
                if value not in ((), [], (0,), [1], (0, 0)):
                    self.must_raise(BadLogs, 1, call, THREE, ((), value, None), *rest)
            self.must_raise(BadLogs, 2, call, THREE, ((), (), (4,)), *rest)


def entries_of(logs):
    return [(hand, at) for hand, log in enumerate(logs) for at in range(len(log))]


class Ahead(Raising, unittest.TestCase):
    def test_by_the_story(self):
        source = random.Random(126)
        for many in (2, 3, 4):
            hands = hands_of(many)
            for _ in range(25):
                story = [source.randrange(many) for _ in range(source.randrange(1, 10))]
                places = {}
                for at, hand in enumerate(story):
                    places[(hand, story[:at].count(hand))] = at
                logs = cut_logs(source, plain_logs(many, story))
                for one, other in product(entries_of(logs), repeat=2):
                    self.assertIs(places[one] < places[other], is_ahead(hands, logs, list(one), other))

    def test_by_the_logs_of_two_hands_alone(self):
        source = random.Random(127)
        for _ in range(40):
            story = [source.randrange(3) for _ in range(8)]
            logs = cut_logs(source, plain_logs(3, story))
            for one, other in product(entries_of(logs), repeat=2):
                if one[0] < other[0]:
                    pair = [
                        tuple(self.names(hand, mark, third) for mark in logs[hand][:at + 1])
                        for (hand, at), third in ((one, other[0]), (other, one[0]))
                    ]
                    told = is_ahead(PAIR, pair, (0, one[1]), (1, other[1]))
                    self.assertEqual(told, is_ahead(THREE, logs, one, other))

    def names(self, hand, mark, other):
        others = [third for third in range(3) if third != hand]
        return mark // 2 ** others.index(other) % 2

    def test_wrong_entries(self):
        logs = ((0, 1), (1,), ())
        wrong = any_values() + [(0, 2), (1, 1), (2, 0), (3, 0), (0, -1), (0, True), (0, 0, 0), (0, None), ("0", 0), 0]
        for value in wrong:
            if value not in ((0, 0),):
                self.must_raise(Refused, value, is_ahead, THREE, logs, value, None)
                self.must_raise(Refused, value, is_ahead, THREE, logs, (0, 0), value)
        self.assertIs(True, is_ahead(hands=THREE, logs=logs, one=[0, 0], other=[1, 0]))
        self.assertIs(False, is_ahead(THREE, logs, (0, 0), (0, 0)))
        self.assertIs(True, is_ahead(THREE, logs, (0, 0), (0, 1)))
        self.assertIsNone(raised(is_ahead, THREE, logs, (0, 1), (1, 0)))
        # Logs that are no rest are told first.
        bad = ((0,), (0,), ())
        self.must_raise(Refused, bad, is_ahead, THREE, bad, None, None)


if __name__ == "__main__":
    unittest.main()
