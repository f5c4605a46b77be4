"""Hulls: the corners of the least convex skeleton that holds given points."""

from shapesheet.points import left_turn, low_left, shifted


def hull_of(points):
    """Answer the hull of the points, one or more, in the form of a skeleton; none of its corners is flat."""
    ordered = sorted(unlike(points), key=low_left)
    if len(ordered) == 1:
        return ordered
    # From the lowest point up along the right side and down along the left one: that is the form.
    upwards = left_turning(ordered)
    downwards = left_turning(list(reversed(ordered)))
    return upwards[:-1] + downwards[:-1]


def unlike(points):
    """Answer the points, each once."""
    found = {}
    for p in points:
        found[p] = True
    return list(found)


def left_turning(ordered):
    """Answer those of the points, from the first to the last, that leave all others to the left or on the way."""
    chain = []
    for p in ordered:
        while len(chain) > 1 and left_turn(chain[-2], chain[-1], p) <= 0:
            chain.pop()
        chain.append(p)
    return chain


def sum_of(points, others):
    """Answer the hull of all sums of one of the points and one of the others."""
    sums = []
    for x, y in points:
        sums.extend(shifted(others, x, y))
    return hull_of(sums)
