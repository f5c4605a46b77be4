"""Skeletons, each told by its points: one of a spot, two of a bar, three and more of a polygon."""

from shapesheet.points import left_turn, low_left
from shapesheet.segments import segments_meet, turns_back


def sides_of(points):
    """Answer the segments (a, b) of a skeleton; a spot has one that is a single point, a bar has one."""
    if len(points) == 2:
        return [(points[0], points[1])]
    return list(zip(points, points[1:] + points[:1]))


def corners_of(points):
    """Answer (a, b, c) of each corner b of a polygon, with a before it and c behind it."""
    return list(zip(points[-1:] + points[:-1], points, points[1:] + points[:1]))


def is_skeleton(points):
    """Tell whether the points, one or more, are those of a skeleton."""
    if len(points) == 1:
        return True
    if len(points) == 2:
        return points[0] != points[1]
    return neighbours_part(points) and others_part(points)


def neighbours_part(points):
    """Tell whether sides that follow one another have their corner in common and no other point."""
    for a, b, c in corners_of(points):
        if a == b or turns_back(a, b, c):
            return False
    return True


def others_part(points):
    """Tell whether sides that don't follow one another have no point in common."""
    sides = sides_of(points)
    for i in range(len(sides)):
        # The last side is followed by the first one.
        end = len(sides) - 1 if i == 0 else len(sides)
        for j in range(i + 2, end):
            if segments_meet(sides[i][0], sides[i][1], sides[j][0], sides[j][1]):
                return False
    return True


def in_form(points):
    """Answer a skeleton's points in its form."""
    if double_area(points) < 0:
        points = list(reversed(points))
    start = points.index(min(points, key=low_left))
    return points[start:] + points[:start]


def double_area(points):
    """Answer twice the area of a skeleton, below 0 if its corners are told clockwise."""
    return sum([a[0] * b[1] - a[1] * b[0] for a, b in zip(points, points[1:] + points[:1])])


def is_convex(points):
    """Tell whether a skeleton in its form is convex."""
    for a, b, c in corners_of(points):
        if left_turn(a, b, c) < 0:
            return False
    return True


def without_flat_corners(points):
    """Answer a skeleton's points but for a polygon's flat corners."""
    if len(points) < 3:
        return points
    return [b for a, b, c in corners_of(points) if left_turn(a, b, c) != 0]


def encloses(points, p):
    """Tell whether a point that lies on no side of the skeleton is a point of it."""
    if len(points) < 3:
        return False
    within = False
    for a, b in sides_of(points):
        upwards = b[1] > p[1]
        # Of the sides that pass the height of p those to its right are counted: an odd number encloses it.
        if (a[1] > p[1]) != upwards and (left_turn(a, b, p) > 0) == upwards:
            within = not within
    return within
