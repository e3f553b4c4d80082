"""Matching: each of some seekers gets one of the places that it may take, all unlike."""


class Matching:
    """Who holds which place so far."""

    def __init__(self, choices, places):
        self.choices = choices
        self.held = [None] * len(choices)
        self.holders = [None] * places


def match_all(choices, places):
    """(by seeker the place that it gets, None), or (None, a crowd of seekers with too few places).

    `choices` tells by seeker the places that it may take, numbers below `places`. The places
    that some of a crowd may take are one fewer than the crowd.
    """
    matching = Matching(choices, places)
    for seeker in range(len(choices)):
        free, asked_by, crowd = ask_around(matching, seeker)
        if free is None:
            return (None, crowd)
        move_on(matching, asked_by, free)
    return (matching.held, None)


def ask_around(matching, seeker):
    """(a free place, by place who asked for it, all who asked) for a seeker without a place.

    Who holds a place that is asked for asks in turn; None for a free place if all of them find none.
    """
    asked_by = {}
    crowd = [seeker]
    at = 0
    while at < len(crowd):
        asking = crowd[at]
        for place in matching.choices[asking]:
            if place not in asked_by:
                asked_by[place] = asking
                if matching.holders[place] is None:
                    return (place, asked_by, crowd)
                crowd.append(matching.holders[place])
        at += 1
    return (None, asked_by, crowd)


def move_on(matching, asked_by, free):
    """Gives a free place to who asked for it, the one that this leaves to who asked for that, and so on."""
    place = free
    while place is not None:
        seeker = asked_by[place]
        left = matching.held[seeker]
        matching.held[seeker] = place
        matching.holders[place] = seeker
        place = left
