"""Points 9 and 11: counts, stories by number, and the counts with the most stories for their logs."""

import unittest
from itertools import permutations, product
from math import factorial, prod

from logsapart.counts import crowded_counts, logs_number, nth_story, story_number, story_place
from logsapart.errors import BadStory, Refused
from logsapart.hands import Hands
from support import Raising, all_stories, any_values, counts_of, plain_ratio, small_hands

THREE = Hands((2, 2, 3))
EIGHT = Hands((1, 2, 3, 4, 5, 6, 7, 60))


def plain_stories(counts):
    return sorted(set(permutations([hand for hand, count in enumerate(counts) for _ in range(count)])))


class Numbers(Raising, unittest.TestCase):
    def test_how_many(self):
        for hands in (Hands((2, 2)), Hands((1, 3)), THREE, Hands((3, 1, 2, 4))):
            for deeds in range(6):
                for counts in counts_of(hands.many, deeds):
                    self.assertEqual(len(plain_stories(counts)), story_number(hands, counts))
                    logs = list(product(*[product(range(k), repeat=c) for k, c in zip(hands.marks, counts)]))
                    self.assertEqual(len(logs), logs_number(hands, list(counts)))

    def test_by_number_and_back(self):
        for hands in (Hands((2, 2)), THREE, Hands((3, 1, 2, 4))):
            for deeds in range(6):
                for counts in counts_of(hands.many, deeds):
                    for number, story in enumerate(plain_stories(counts)):
                        self.assertEqual(story, nth_story(hands, list(counts), number))
                        self.assertEqual((counts, number), story_place(hands, list(story)))

    def test_up_to_the_limit(self):
        counts = (50,) * 8
        stories = factorial(400) // factorial(50) ** 8
        self.assertEqual(stories, story_number(EIGHT, counts))
        self.assertEqual(factorial(7) ** 50 * 60 ** 50, logs_number(EIGHT, counts))
        least = tuple(hand for hand in range(8) for _ in range(50))
        self.assertEqual(least, nth_story(EIGHT, counts, 0))
        self.assertEqual(least[::-1], nth_story(EIGHT, counts, stories - 1))
        self.assertEqual((counts, 0), story_place(EIGHT, least))
        self.assertEqual((counts, stories - 1), story_place(EIGHT, least[::-1]))
        middle = nth_story(EIGHT, counts, stories // 3)
        self.assertEqual((counts, stories // 3), story_place(EIGHT, middle))

    def test_no_deeds(self):
        self.assertEqual((1, 1), (story_number(THREE, (0, 0, 0)), logs_number(THREE, [0, 0, 0])))
        self.assertEqual((), nth_story(THREE, (0, 0, 0), 0))
        self.assertEqual(((0, 0, 0), 0), story_place(THREE, ()))

    def test_by_names(self):
        self.assertEqual(3, story_number(counts=(1, 2, 0), hands=THREE))
        self.assertEqual((1, 0, 1), nth_story(hands=THREE, number=1, counts=(1, 2, 0)))


class WrongValues(Raising, unittest.TestCase):
    def test_counts(self):
        wrong = any_values() + [
            (1, 1), (1, 1, 1, 1), (1, -1, 1), (1, True, 1), (1, None, 1), (1, "1", 1), [[1], 1, 1], (401, 0, 0), (200, 200, 1),
            (10 ** 30, 0, 0), (THREE, 1, 1),
        ]
        for value in wrong:
            self.must_raise(Refused, value, story_number, THREE, value)
            self.must_raise(Refused, value, logs_number, THREE, value)
            self.must_raise(Refused, value, nth_story, THREE, value, -1)
        self.assertEqual(1, story_number(THREE, (400, 0, 0)))

    def test_numbers(self):
        for value in any_values() + [6, 7, 10 ** 50]:
            self.must_raise(Refused, value, nth_story, THREE, (1, 1, 1), value)
        self.assertEqual((2, 1, 0), nth_story(THREE, (1, 1, 1), 5))

    def test_stories(self):
        self.must_raise(BadStory, 1, story_place, THREE, (0, 3))
        self.must_raise(BadStory, -1, story_place, THREE, None)
        self.must_raise(BadStory, 400, story_place, THREE, [0] * 400 + [True])
        self.must_raise(BadStory, -1, story_place, THREE, [0] * 10001)
        long = [0] * 401
        self.must_raise(Refused, long, story_place, THREE, long)
        self.assertEqual(((400, 0, 0), 0), story_place(THREE, long[1:]))


class Crowded(Raising, unittest.TestCase):
    def test_as_great_as_can_be(self):
        for hands in small_hands(4) + [Hands((1, 2, 5, 7)), Hands((60, 59))]:
            for length in range(8):
                counts = crowded_counts(hands, length)
                self.assertEqual((tuple, hands.many, length), (type(counts), len(counts), sum(counts)))
                best = max(plain_ratio(hands, each) for each in counts_of(hands.many, length))
                self.assertEqual(best, plain_ratio(hands, counts))

    def test_the_limit(self):
        self.assertEqual(400, sum(crowded_counts(EIGHT, 400)))
        for value in any_values() + [401, 10 ** 9]:
            self.must_raise(Refused, value, crowded_counts, THREE, value)

    def test_stories_are_ascending_by_number(self):
        for story in all_stories(THREE, 5):
            counts, number = story_place(THREE, story)
            if number > 0:
                self.assertLess(nth_story(THREE, counts, number - 1), story)


if __name__ == "__main__":
    unittest.main()
