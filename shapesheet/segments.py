"""Segments, each told by its two ends; ends that are alike make it a single point."""

from shapesheet.points import left_turn, squared_distance


def spans_part(a, b, c, d):
    """Tell whether no number lies both between a and b and between c and d."""
    return max(a, b) < min(c, d) or max(c, d) < min(a, b)


def straddles(a, b, c, d):
    """Tell whether the line through a and b has a point of the segment from c to d."""
    return left_turn(a, b, c) * left_turn(a, b, d) <= 0


def segments_meet(a, b, c, d):
    """Tell whether the segments from a to b and from c to d have a point in common."""
    # Segments on one line straddle one another wherever they lie: only their boxes tell them apart.
    if spans_part(a[0], b[0], c[0], d[0]) or spans_part(a[1], b[1], c[1], d[1]):
        return False
    return straddles(a, b, c, d) and straddles(c, d, a, b)


def turns_back(a, b, c):
    """Tell whether the segment from b to c lies upon the one from a to b, beyond their common end."""
    along = (b[0] - a[0]) * (c[0] - b[0]) + (b[1] - a[1]) * (c[1] - b[1])
    return left_turn(a, b, c) == 0 and along < 0


def point_to_segment(p, a, b):
    """Answer (n, d) with d above 0: n / d is the square of the distance of p to the segment from a to b."""
    length = squared_distance(a, b)
    along = (p[0] - a[0]) * (b[0] - a[0]) + (p[1] - a[1]) * (b[1] - a[1])
    if along <= 0:
        return (squared_distance(p, a), 1)
    if along >= length:
        return (squared_distance(p, b), 1)
    across = left_turn(a, b, p)
    return (across * across, length)
