"""Scales: logarithms to base 2 as whole numbers, from below."""

# 2 ** 64, so that what is cut off below it stays far below the last figure.
UNIT = 18446744073709551616
FIGURES = 32
# By how much a scale may be too small.
SLACK = 2


def scale_of(number):
    """The logarithm of a number from 1 on, times 2 ** 32; less than SLACK below it, never above."""
    scale = number.bit_length() - 1
    rest = number * UNIT
    for _ in range(scale):
        rest = rest // 2
    # Squaring doubles the logarithm; of what is then 2 or more, one figure more is 1.
    for _ in range(FIGURES):
        rest = rest * rest // UNIT
        scale = scale * 2
        if rest >= 2 * UNIT:
            rest = rest // 2
            scale += 1
    return scale
