"""The errors of the package; each keeps its arguments in attributes of the same names."""


class LogError(ValueError):
    """The base of all errors here but NoHand."""


class BadHands(LogError):
    """What was passed are no hands: -1, or the index of the first wrong number of marks."""

    def __init__(self, at):
        self.at = at


class BadKinds(LogError):
    """What was passed are no kinds: -1, or the index of the first wrong lot."""

    def __init__(self, at):
        self.at = at


class BadStory(LogError):
    """What was passed is no story: -1, or the index of the first wrong item."""

    def __init__(self, at):
        self.at = at


class BadLogs(LogError):
    """What was passed are no logs: -1, or the index of the first wrong log."""

    def __init__(self, at):
        self.at = at


class BadText(LogError):
    """A text cannot be read: where it goes wrong, as the reading function tells it."""

    def __init__(self, at):
        self.at = at


class Refused(LogError):
    """An argument is not what the function takes; it is kept as it was passed."""

    def __init__(self, at):
        self.at = at


class TooGreat(LogError):
    """Something is greater than a told number."""

    def __init__(self, most):
        self.most = most


class NoTelling(LogError):
    """The share, top over bottom in least terms, is above 1."""

    def __init__(self, top, bottom):
        self.top = top
        self.bottom = bottom


class NoHand(KeyError):
    """There is no such hand."""

    def __init__(self, hand):
        self.hand = hand
