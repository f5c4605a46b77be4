"""The least distance of two skeletons, told by its square as a fraction (n, d)."""

from shapesheet.segments import point_to_segment, segments_meet
from shapesheet.skeletons import encloses, sides_of


def skeleton_distance(points, others):
    """Answer (n, d) in least terms: n / d is the square of the least distance of two skeletons."""
    if have_common_point(points, others):
        return (0, 1)
    # Where two segments don't meet an end of one of them is nearest to the other.
    return least_terms(lesser(points_to_sides(points, others), points_to_sides(others, points)))


def have_common_point(points, others):
    """Tell whether two skeletons have a point in common."""
    sides = sides_of(others)
    for a, b in sides_of(points):
        for c, d in sides:
            if segments_meet(a, b, c, d):
                return True
    # Where no sides meet one skeleton lies within the other as a whole, or they are apart.
    return encloses(points, others[0]) or encloses(others, points[0])


def points_to_sides(points, others):
    """Answer the square of the least distance of the points to the sides of a skeleton."""
    sides = sides_of(others)
    least = point_to_segment(points[0], sides[0][0], sides[0][1])
    for p in points:
        for a, b in sides:
            least = lesser(least, point_to_segment(p, a, b))
    return least


def lesser(one, other):
    """Answer the lesser one of two fractions (n, d), d above 0."""
    if other[0] * one[1] < one[0] * other[1]:
        return other
    return one


def least_terms(fraction):
    """Answer the fraction (n, d) without a common divisor but 1."""
    divisor = fraction[0]
    rest = fraction[1]
    while rest != 0:
        remainder = divisor % rest
        divisor = rest
        rest = remainder
    return (fraction[0] // divisor, fraction[1] // divisor)
