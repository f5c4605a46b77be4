"""How shapes, grown by their radii, lie to one another and to points."""

from shapesheet.distances import is_less, keep_distance, skeleton_distance
from shapesheet.segments import point_to_segment
from shapesheet.skeletons import encloses, sides_of

OUTSIDE = 0
ON_RIM = 1
INSIDE = 2


def touch(shape, other):
    """Tell whether two shapes have a point in common."""
    reach = shape.radius + other.radius
    return not is_less((reach * reach, 1), skeleton_distance(shape.points, other.points))


def are_apart(shape, other, distance):
    """Tell whether each point of one shape is so far from each point of the other, or farther."""
    return keep_distance(shape.points, other.points, shape.radius + other.radius + distance)


def where_lies(p, shape):
    """Tell whether a point lies outside a shape, on its rim or in its inside."""
    square = (shape.radius * shape.radius, 1)
    distance = skeleton_distance([p], shape.points)
    if is_less(square, distance):
        return OUTSIDE
    if shape.radius == 0:
        return ON_RIM if on_side(p, shape.points) else INSIDE
    return INSIDE if is_less(distance, square) else ON_RIM


def on_side(p, points):
    """Tell whether a point lies on a side of the skeleton, which a spot or bar is itself."""
    for a, b in sides_of(points):
        if point_to_segment(p, a, b)[0] == 0:
            return True
    return False


def is_bare_polygon(shape):
    """Tell whether a shape is a polygon that isn't grown."""
    return len(shape.points) > 2 and shape.radius == 0


def lies_inside(shape, polygon, margin):
    """Tell whether a shape lies in a polygon that isn't grown, and so far from each of its sides, or farther."""
    for a, b in sides_of(polygon.points):
        if not keep_distance(shape.points, [a, b], shape.radius + margin):
            return False
    # A shape that no side comes near lies inside as a whole, or outside.
    return encloses(polygon.points, shape.points[0])


def is_box(shape):
    """Tell whether a shape is a polygon of four corners with upright and level sides that isn't grown."""
    if len(shape.points) != 4 or shape.radius != 0:
        return False
    for a, b in sides_of(shape.points):
        if a[0] != b[0] and a[1] != b[1]:
            return False
    return True
