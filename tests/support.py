"""What several tests use: wrong values, small hands, and calls that must raise."""

from fractions import Fraction
from itertools import product
from math import factorial, prod

from logsapart.errors import BadStory, NoHand
from logsapart.hands import Hands


def nested(depth, value):
    for _ in range(depth):
        value = [value]
    return value


def any_values():
    """Values of all kinds that point 1 names; none of them is a number."""
    return [
        -1, -(10 ** 30), True, False, None, "", "0", "hands 2 2", (), [], (0,), [1], (0, 0), [True, False],
        ((), ()), [[0], [1]], ((0,), [True]), (None, "a"), Hands((2, 2)), (Hands((2, 2)), 1),
        BadStory(0), [NoHand(1)], nested(40, 0), tuple(nested(39, ())), (2, (3, (4, "5"))), [0] * 10001,
    ]


def not_of_length(many):
    """Values of all kinds but sequences of so many items."""
    return [value for value in any_values() if not isinstance(value, (list, tuple)) or len(value) != many]


def raised(call, *args, **named):
    """The error that a call raises, None if it raises none."""
    try:
        call(*args, **named)
    except (ValueError, KeyError) as error:
        return error
    return None


def told(error):
    """(class name, attributes) of an error, to be compared."""
    return (error.__class__.__name__, dict(vars(error))) if error is not None else None


class Raising:
    """Mixed into a test case: what a call must raise."""

    def must_raise(self, kind, value, call, *args, **named):
        """The call raises just this error, and the error keeps just this argument."""
        error = raised(call, *args, **named)
        self.assertIs(kind, error.__class__, (call, args, named))
        (kept,) = vars(error).values()
        if isinstance(value, int) or value is None:
            self.assertEqual((value, type(value)), (kept, type(kept)), (call, args, named))
        else:
            self.assertIs(value, kept)

    def must_lack_telling(self, top, bottom, call, *args, **named):
        error = raised(call, *args, **named)
        self.assertEqual(("NoTelling", {"top": top, "bottom": bottom}), told(error))


def fraction_share(marks):
    return sum((Fraction(1, k) for k in marks), Fraction(0))


def small_hands(most=4, lengths=(2, 3)):
    """All hands of few marks."""
    return [Hands(marks) for many in lengths for marks in product(range(1, most + 1), repeat=many)]


def telling_hands(most=4, lengths=(2, 3)):
    return [hands for hands in small_hands(most, lengths) if fraction_share(hands.marks) <= 1]


def all_stories(hands, length):
    """All stories of a length, ascending."""
    return list(product(range(hands.many), repeat=length))


def stories_up_to(hands, length):
    return [story for deeds in range(length + 1) for story in all_stories(hands, deeds)]


def counts_of(many, deeds):
    """All counts of so many deeds."""
    return [counts for counts in product(range(deeds + 1), repeat=many) if sum(counts) == deeds]


def plain_ratio(hands, counts):
    stories = factorial(sum(counts)) // prod(factorial(count) for count in counts)
    return Fraction(stories, prod(k ** count for k, count in zip(hands.marks, counts)))


def all_logs(hands, entries):
    """All logs with at most so many entries together."""
    rows = []
    for lengths in product(range(entries + 1), repeat=hands.many):
        if sum(lengths) <= entries:
            each = [product(range(k), repeat=length) for k, length in zip(hands.marks, lengths)]
            rows.extend(product(*each))
    return rows


def is_deep_tuple(value):
    """Whether a value contains no list at any depth."""
    if isinstance(value, tuple):
        return all(is_deep_tuple(item) for item in value)
    return not isinstance(value, list)
