"""Spans of places, pairs (first, behind), that lie one behind another from place 0."""


def spans_of(lengths):
    """The spans of these lengths."""
    spans = []
    first = 0
    for length in lengths:
        spans.append((first, first + length))
        first = first + length
    return tuple(spans)


def span_with(spans, place):
    """The index of the span in which a place is, None if it is in none."""
    for at, (first, behind) in enumerate(spans):
        if first <= place < behind:
            return at
    return None
