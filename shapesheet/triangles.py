"""Polygons cut into triangles, ear by ear."""

from shapesheet.points import left_turn


def triangles_of(points):
    """Answer the triangles of a polygon in its form, each told by the numbers (a, b, c) of its corners."""
    left = list(range(len(points)))
    triangles = []
    while len(left) > 3:
        k = first_ear([points[number] for number in left])
        triangles.append((left[k - 1], left[k], left[(k + 1) % len(left)]))
        left.pop(k)
    triangles.append(tuple(left))
    return triangles


def first_ear(points):
    """Answer at which index the first ear of a polygon lies; there always is one."""
    k = 0
    while not begins_with_ear(points[k:] + points[:k]):
        k += 1
    return k


def begins_with_ear(points):
    """Tell whether a polygon's first corner is an ear."""
    a = points[-1]
    b = points[0]
    c = points[1]
    if left_turn(a, b, c) <= 0:
        return False
    for p in points[2:-1]:
        if in_triangle(p, a, b, c):
            return False
    return True


def in_triangle(p, a, b, c):
    """Tell whether p lies in the triangle of a, b and c, told counter-clockwise, or on a side of it."""
    return left_turn(a, b, p) >= 0 and left_turn(b, c, p) >= 0 and left_turn(c, a, p) >= 0
