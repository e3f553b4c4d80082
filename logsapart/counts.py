"""Counts of deeds: how many stories and logs have them, and the stories by number."""

from math import comb

from logsapart.basics import is_below, is_number, is_sequence
from logsapart.errors import Refused
from logsapart.hands import check_story
from logsapart.logs import story_counts

MOST_DEEDS = 400


def are_counts(hands, value, most):
    """Whether any value is a sequence of a number for each hand, together at most so many."""
    if not is_sequence(value) or len(value) != hands.many:
        return False
    return all([is_number(count) for count in value]) and sum(value) <= most


def need_counts(hands, counts):
    """Counts as a tuple."""
    if not are_counts(hands, counts, MOST_DEEDS):
        raise Refused(counts)
    return tuple(counts)


def stories_with(counts):
    """How many stories have these counts, whatever their sum."""
    stories = 1
    deeds = 0
    for count in counts:
        deeds = deeds + count
        stories = stories * comb(deeds, count)
    return stories


def logs_with(hands, counts):
    """How many logs have these lengths, whatever their sum."""
    logs = 1
    for marks, count in zip(hands.marks, counts):
        for _ in range(count):
            logs = logs * marks
    return logs


def story_number(hands, counts):
    """How many stories have these counts."""
    return stories_with(need_counts(hands, counts))


def logs_number(hands, counts):
    """How many logs have these lengths."""
    return logs_with(hands, need_counts(hands, counts))


def begun_by(stories, left, hand):
    """Of the stories that have the counts left, as many as told, how many a hand begins."""
    return stories * left[hand] // sum(left)


def nth_story(hands, counts, number):
    """The story of a number among those with the counts, ascending."""
    left = list(need_counts(hands, counts))
    stories = stories_with(left)
    if not is_below(number, stories):
        raise Refused(number)
    ahead = number
    story = []
    for _ in range(sum(left)):
        hand = 0
        begun = begun_by(stories, left, hand)
        while ahead >= begun:
            ahead = ahead - begun
            hand += 1
            begun = begun_by(stories, left, hand)
        stories = begun
        left[hand] -= 1
        story.append(hand)
    return tuple(story)


def story_place(hands, story):
    """(counts, number) of a story: its place among those with its counts, ascending."""
    told = check_story(hands, story)
    if len(told) > MOST_DEEDS:
        raise Refused(story)
    counts = story_counts(hands, told)
    left = list(counts)
    stories = stories_with(left)
    number = 0
    for hand in told:
        number = number + sum([begun_by(stories, left, lower) for lower in range(hand)])
        stories = begun_by(stories, left, hand)
        left[hand] -= 1
    return (counts, number)


def next_crowded(hands, counts):
    """The hand whose deed more leaves stories over logs greatest.

    Stories over logs are n! over the product of all j times marks, j from 1 to the count
    of a hand, over the hands: so the best counts of n deeds take the n least such numbers.
    """
    costs = [(count + 1) * marks for count, marks in zip(counts, hands.marks)]
    return costs.index(min(costs))


def crowded_counts(hands, length):
    """Some counts of so many deeds for which stories over logs is greatest."""
    if not is_below(length, MOST_DEEDS + 1):
        raise Refused(length)
    counts = [0] * hands.many
    for _ in range(length):
        counts[next_crowded(hands, counts)] += 1
    return tuple(counts)
