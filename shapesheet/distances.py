"""Distances of skeletons, told by their squares: as a fraction (n, d), d above 0, where they may be one."""

from shapesheet.boxes import box_of, squared_gap
from shapesheet.points import squared_distance
from shapesheet.segments import point_to_segment, segments_meet
from shapesheet.skeletons import encloses, sides_of


def skeleton_distance(points, others):
    """Answer (n, d) in least terms: n / d is the square of the least distance of two skeletons."""
    return least_terms(distance_up_to(points, others, (squared_distance(points[0], others[0]), 1)))


def distance_up_to(points, others, most):
    """Answer the square of the least distance of two skeletons, or most if that is less."""
    # Skeletons are no nearer to one another than the boxes around them, which are much sooner compared.
    if squared_gap(box_of(points), box_of(others)) * most[1] >= most[0]:
        return most
    if have_common_point(points, others):
        return (0, 1)
    # Where two segments don't meet an end of one of them is nearest to the other.
    return points_to_sides(points, others, points_to_sides(others, points, most))


def have_common_point(points, others):
    """Tell whether two skeletons have a point in common."""
    around = box_of(points)
    sides = sides_of(points)
    for a, b in sides_of(others):
        # A side beyond the box around the points meets none of their sides.
        if squared_gap(around, box_of([a, b])) == 0 and meets_one(a, b, sides):
            return True
    # Where no sides meet one skeleton lies within the other as a whole, or they are apart.
    return encloses(points, others[0]) or encloses(others, points[0])


def meets_one(a, b, sides):
    """Tell whether the segment from a to b has a point in common with one of the sides."""
    for c, d in sides:
        if segments_meet(a, b, c, d):
            return True
    return False


def points_to_sides(points, others, most):
    """Answer the square of the least distance of the points to the sides of a skeleton, or most if that is less."""
    around = box_of(points)
    least = most
    for a, b in sides_of(others):
        # A side can bring a lesser distance only where its box is nearer than that.
        if squared_gap(around, box_of([a, b])) * least[1] < least[0]:
            for p in points:
                least = lesser(least, point_to_segment(p, a, b))
    return least


def keep_distance(points, others, distance):
    """Tell whether two skeletons are so far from one another, or farther; distance is a whole number."""
    square = (distance * distance, 1)
    return not is_less(distance_up_to(points, others, square), square)


def greatest_distance(points, others):
    """Answer the square of the greatest distance of a point of one skeleton to a point of the other."""
    # The farthest point of a segment is one of its ends, so only the points told are looked at.
    greatest = 0
    for p in points:
        greatest = max(greatest, max([squared_distance(p, q) for q in others]))
    return greatest


def is_less(one, other):
    """Tell whether the fraction one is less than the fraction other."""
    return one[0] * other[1] < other[0] * one[1]


def lesser(one, other):
    """Answer the lesser one of two fractions."""
    return other if is_less(other, one) else one


def least_terms(fraction):
    """Answer the fraction (n, d) without a common divisor but 1."""
    divisor = fraction[0]
    rest = fraction[1]
    while rest != 0:
        remainder = divisor % rest
        divisor = rest
        rest = remainder
    return (fraction[0] // divisor, fraction[1] // divisor)
