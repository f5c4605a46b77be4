"""Points of the plane: pairs (x, y) of whole numbers."""

FARTHEST = 1000000000


def left_turn(a, b, c):
    """Answer T(a, b, c): above 0 for a left turn at b, below 0 for a right turn, 0 in one line."""
    return (b[0] - a[0]) * (c[1] - a[1]) - (b[1] - a[1]) * (c[0] - a[0])


def squared_distance(a, b):
    """Answer the square of the distance of two points."""
    dx = a[0] - b[0]
    dy = a[1] - b[1]
    return dx * dx + dy * dy


def low_left(point):
    """Order points by height, those of one height from left to right."""
    return (point[1], point[0])


def all_in_range(points):
    """Tell whether each coordinate of the points is in range."""
    for x, y in points:
        if abs(x) > FARTHEST or abs(y) > FARTHEST:
            return False
    return True


def shifted(points, dx, dy):
    """Answer the points, each moved by dx to the right and dy upwards."""
    return [(x + dx, y + dy) for x, y in points]


def turned(points, k, cx, cy):
    """Answer the points, each turned k quarter turns counter-clockwise about (cx, cy)."""
    for quarter in range(k % 4):
        points = [(cx - (y - cy), cy + (x - cx)) for x, y in points]
    return points


def flipped(points, cx):
    """Answer the points, each mirrored at the upright line through cx."""
    return [(2 * cx - x, y) for x, y in points]
