"""Gaps: logs of a dial of which newest entries are gone, and the stories that may have left them, counted."""

from math import gcd

from logsapart.basics import with_item
from logsapart.dials import place_of


class Gaps:
    """Logs of a dial of which newest entries are gone.

    Counts are by hand how many entries are written, whole those of all. A layer tells, for as many
    deeds, by counts, by place of the dial how many stories come there, or go on from there to the end:
    firsts are those from the begin on, lasts those from the end back, to the same number of deeds.
    """

    def __init__(self, dial, left, lost):
        self.dial = dial
        self.left = left
        self.whole = whole_counts(left, lost)
        self.firsts, self.lasts = meeting_layers(self)


def whole_counts(left, lost):
    """By hand how many entries there were before some were lost."""
    return tuple([len(log) + number for log, number in zip(left, lost)])


def known_mark(gaps, hand, count):
    """The mark of a hand's last entry that is left, of so many, 0 for none."""
    if count == 0:
        return 0
    return gaps.left[hand][count - 1]


def with_deed(counts, hand):
    """The counts behind a deed more of a hand."""
    return with_item(counts, hand, counts[hand] + 1)


def hands_left(gaps, counts):
    """The hands that have entries more than at some counts."""
    return [hand for hand, whole in enumerate(gaps.whole) if counts[hand] < whole]


def steps_on(gaps, counts, hand, places):
    """(place, place behind) for a deed more of a hand, from those of some places from which it leaves its entry."""
    size = gaps.dial.size
    width = size // gaps.dial.hands.marks[hand]
    first, _ = gaps.dial.arcs[hand]
    count = counts[hand]
    if count >= len(gaps.left[hand]):
        # Whatever the hand's mark was, this is the only place of its arc to which its marks turn the dial.
        return [(place, first + (place - first) % width) for place in places]
    turn = (gaps.left[hand][count] - known_mark(gaps, hand, count)) * width
    return [(place, (place + turn) % size) for place in places if (place + turn - first) % size < width]


def struck(counts, hand):
    """The counts ahead of a hand's last entry."""
    return with_item(counts, hand, counts[hand] - 1)


def free_places(gaps, counts):
    """(place, step): where the dial may stand at some counts, by this place and steps, as their last marks are known.

    The marks of lost entries are not: each of them turns the dial by as many places as its hand's arc has.
    """
    place = 0
    step = gaps.dial.size
    for hand, (count, marks) in enumerate(zip(counts, gaps.dial.hands.marks)):
        width = gaps.dial.size // marks
        if count > len(gaps.left[hand]):
            step = gcd(step, width)
        else:
            place = place + known_mark(gaps, hand, count) * width
    return (place, step)


def steps_back(gaps, counts, hand, places):
    """(place, place ahead) for the last deed, in all ways, if it was a hand's and led to one of some places."""
    size = gaps.dial.size
    marks = gaps.dial.hands.marks[hand]
    width = size // marks
    first, behind = gaps.dial.arcs[hand]
    told = [place for place in places if first <= place < behind]
    if not told:
        return []
    if counts[hand] <= len(gaps.left[hand]):
        turn = known_mark(gaps, hand, counts[hand] - 1) - known_mark(gaps, hand, counts[hand])
        return [(place, (place + turn * width) % size) for place in told]
    free, step = free_places(gaps, struck(counts, hand))
    back = [(place, (place + turn * width) % size) for place in told for turn in range(marks)]
    return [(place, before) for place, before in back if (before - free) % step == 0]


def add_stories(layer, counts, steps, places):
    """Adds the stories of some places to a layer, at some counts, at the places to which steps lead."""
    told = layer.setdefault(counts, {})
    for place, other in steps:
        told[other] = told.get(other, 0) + places[place]


def layer_behind(gaps, layer):
    """The layer of one deed more, of the stories that come to a layer."""
    longer = {}
    for counts, places in layer.items():
        for hand in hands_left(gaps, counts):
            steps = steps_on(gaps, counts, hand, places)
            if steps:
                add_stories(longer, with_deed(counts, hand), steps, places)
    return longer


def layer_ahead(gaps, layer):
    """The layer of one deed fewer, of the ways that go on from a layer."""
    shorter = {}
    for counts, places in layer.items():
        for hand, count in enumerate(counts):
            steps = steps_back(gaps, counts, hand, places) if count > 0 else []
            if steps:
                add_stories(shorter, struck(counts, hand), steps, places)
    return shorter


def layer_size(layer):
    """How many places a layer tells of."""
    return sum([len(places) for places in layer.values()])


def meeting_layers(gaps):
    """(firsts, lasts) of gaps. The lesser side goes on each time: from one side alone there may be far too many."""
    free, step = free_places(gaps, gaps.whole)
    firsts = [{(0,) * len(gaps.whole): {0: 1}}]
    lasts = [{gaps.whole: {place: 1 for place in range(free % step, gaps.dial.size, step)}}]
    for _ in range(sum(gaps.whole)):
        if layer_size(firsts[-1]) <= layer_size(lasts[-1]):
            firsts.append(layer_behind(gaps, firsts[-1]))
        else:
            lasts.append(layer_ahead(gaps, lasts[-1]))
    return (firsts, lasts)


def stories_fitting(gaps):
    """How many stories fit."""
    number = 0
    for counts, places in gaps.firsts[-1].items():
        ways = gaps.lasts[-1].get(counts, {})
        number = number + sum([stories * ways.get(place, 0) for place, stories in places.items()])
    return number


def wanted_places(gaps):
    """By counts, by place, of all counts that matter, those from which stories go on to the end."""
    wanted = {counts: places for layer in gaps.lasts for counts, places in layer.items()}
    for layer in gaps.firsts[:-1][::-1]:
        for counts, places in layer.items():
            steps = [steps_wanted(gaps, wanted, counts, hand, places) for hand in hands_left(gaps, counts)]
            wanted[counts] = {place: True for row in steps for place, _ in row}
    return wanted


def steps_wanted(gaps, wanted, counts, hand, places):
    """Those of steps_on that lead to wanted places."""
    steps = steps_on(gaps, counts, hand, places)
    if not steps:
        return []
    behind = wanted.get(with_deed(counts, hand), {})
    return [(place, after) for place, after in steps if after in behind]


def rows_behind(gaps, wanted, layer):
    """By counts, by place, by last marks how many stories of one deed more come there, where they are wanted."""
    longer = {}
    for counts, places in layer.items():
        for hand in hands_left(gaps, counts):
            marks = gaps.dial.hands.marks[hand]
            width = gaps.dial.size // marks
            for place, after in steps_wanted(gaps, wanted, counts, hand, places):
                told = longer.setdefault(with_deed(counts, hand), {}).setdefault(after, {})
                turn = (after - place) // width
                for last, stories in places[place].items():
                    now = with_item(last, hand, (last[hand] + turn) % marks)
                    told[now] = told.get(now, 0) + stories
    return longer


def rows_of(gaps):
    """By counts, by place, by last marks how many stories come there, if some of them go on to the end."""
    start = (0,) * len(gaps.whole)
    wanted = wanted_places(gaps)
    layer = {start: {0: {start: 1}}}
    rows = {}
    for _ in range(sum(gaps.whole) + 1):
        for counts, places in layer.items():
            rows[counts] = places
        layer = rows_behind(gaps, wanted, layer)
    return rows


def stories_to(gaps, rows, counts, last):
    """How many stories lead to these counts and last marks."""
    return rows.get(counts, {}).get(place_of(gaps.dial, last), {}).get(last, 0)
