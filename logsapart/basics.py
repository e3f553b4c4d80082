"""What a number, a row of numbers and a sequence are; small helpers over rows."""

from math import gcd


def is_number(value):
    """Whether any value is an integer from 0 on; a bool is none."""
    return isinstance(value, int) and not isinstance(value, bool) and value >= 0


def is_below(value, bound):
    """Whether any value is a number below a bound."""
    return is_number(value) and value < bound


def is_sequence(value):
    """Whether any value is a list or a tuple."""
    return isinstance(value, (list, tuple))


def fits_bounds(value, bounds):
    """Whether any value is a sequence of numbers, one below each of the bounds."""
    if not is_sequence(value) or len(value) != len(bounds):
        return False
    return all([is_below(item, bound) for item, bound in zip(value, bounds)])


def as_tuples(rows):
    """A tuple of tuples of the items of some rows."""
    return tuple([tuple(row) for row in rows])


def with_item(row, at, item):
    """A tuple that is like another one but for the item at an index."""
    return row[:at] + (item,) + row[at + 1:]


def sum_of_parts(tops, bottoms):
    """The sum of each top over its bottom: (top, bottom) in least terms."""
    above = 0
    below = 1
    for top, bottom in zip(tops, bottoms):
        above = above * bottom + top * below
        below = below * bottom
    common = gcd(above, below)
    return (above // common, below // common)


def rows_below(bounds):
    """All rows of numbers, one below each of the bounds, ascending."""
    rows = [()]
    for bound in bounds:
        rows = [(*row, number) for row in rows for number in range(bound)]
    return rows


def product_of(numbers):
    """All numbers of a row multiplied."""
    result = 1
    for number in numbers:
        result = result * number
    return result
