"""Helps the tests: builds lists of calls, takes answers apart, and reckons answers in another way."""

from fractions import Fraction

from shapesheet.desk import answers

FAR = 10 ** 9
HUGE = 10 ** 18
SPOT = [1, 2]
BAR = [0, 0, 4, 2]
SQUARE = [0, 0, 4, 0, 4, 4, 0, 4]
# A polygon with a right turn at (2, 2).
NOTCH = [0, 0, 4, 0, 4, 4, 2, 2, 0, 4]


def put(place, r, numbers):
    return [0, place, r, len(numbers)] + list(numbers)


def clear(place):
    return [1, place]


def copy(source, to):
    return [2, source, to]


def shift(place, dx, dy):
    return [3, place, dx, dy]


def turn(place, k, cx, cy):
    return [4, place, k, cx, cy]


def flip(place, cx):
    return [5, place, cx]


def grow(place, d):
    return [6, place, d]


def tidy(place):
    return [7, place]


def shape(place):
    return [8, place]


def box(place):
    return [9, place]


def area(place):
    return [10, place]


def convex(place):
    return [11, place]


def dist(i, j):
    return [12, i, j]


def far(i, j):
    return [13, i, j]


def touch(i, j):
    return [14, i, j]


def apart(i, j, c):
    return [15, i, j, c]


def point(place, x, y):
    return [16, place, x, y]


def inside(i, j, m):
    return [17, i, j, m]


def hull(to, places):
    return [18, to, len(places)] + list(places)


def summed(i, j, to):
    return [19, i, j, to]


def near(place):
    return [20, place]


def close(c):
    return [21, c]


def cover(places):
    return [22, len(places)] + list(places)


def triangles(place):
    return [23, place]


def filled():
    """The call all."""
    return [24]


def joined(calls):
    """One list of all the calls, one behind another."""
    return [number for call in calls for number in call]


def taken_apart(answered):
    """The answers of several calls, each without its count."""
    parts = []
    at = 0
    while at < len(answered):
        count = answered[at]
        part = answered[at + 1:at + 1 + count]
        if len(part) != count or count < 1:
            raise AssertionError(f"a count of {count} at {at} in {answered}")
        parts.append(part)
        at += 1 + count
    return parts


def ask(*calls):
    """The answers to the calls on one new sheet, one for each."""
    parts = taken_apart(answers(joined(calls)))
    if len(parts) != len(calls):
        raise AssertionError(f"{len(parts)} answers to {len(calls)} calls")
    return parts


def last(*calls):
    """The answer to the last one of the calls on one new sheet."""
    return ask(*calls)[-1]


def whole_sheet():
    """Calls that answer all that a sheet holds."""
    return [shape(place) for place in range(64)]


def refused(start, call):
    """The answer to a call that is to be refused, checked to be a refusal that has changed nothing."""
    before = ask(*start, *whole_sheet())[len(start):]
    answered = ask(*start, call, *whole_sheet())[len(start):]
    if len(answered[0]) != 1 or answered[0][0] >= 0 or answered[1:] != before:
        raise AssertionError(f"{call} answers {answered[0]}, or has changed the sheet")
    return answered[0][0]


def pairs(numbers):
    """The points of a list of coordinates."""
    return list(zip(numbers[::2], numbers[1::2]))


def flat(points):
    """The coordinates of a list of points."""
    return [number for point in points for number in point]


def segments(points):
    """The sides of a skeleton as pairs of points."""
    if len(points) < 3:
        return [(points[0], points[-1])]
    return [(points[k], points[(k + 1) % len(points)]) for k in range(len(points))]


def minus(p, q):
    return (p[0] - q[0], p[1] - q[1])


def dot(p, q):
    return p[0] * q[0] + p[1] * q[1]


def cross(p, q):
    return p[0] * q[1] - p[1] * q[0]


def span_on_line(a, b, c, d):
    """Where cd, on the line of ab, lies along ab (a at 0, b at 1), cut off beyond ab; None if beyond it."""
    v = minus(b, a)
    ends = sorted(Fraction(dot(minus(e, a), v), dot(v, v)) for e in (c, d))
    low, high = max(ends[0], 0), min(ends[1], 1)
    return (low, high) if low <= high else None


def common_part(a, b, c, d):
    """What two segments, each of unlike ends, have in common: the ends of it as a pair, or None."""
    v, w = minus(b, a), minus(d, c)
    if cross(v, w) == 0:
        if cross(v, minus(c, a)) != 0:
            return None
        span = span_on_line(a, b, c, d)
        if span is None:
            return None
        return tuple((a[0] + t * v[0], a[1] + t * v[1]) for t in span)
    t = Fraction(cross(minus(c, a), w), cross(v, w))
    u = Fraction(cross(minus(c, a), v), cross(v, w))
    if not (0 <= t <= 1 and 0 <= u <= 1):
        return None
    meeting = (a[0] + t * v[0], a[1] + t * v[1])
    return (meeting, meeting)


def simple_by_fractions(points):
    """Whether three and more points are a simple polygon, straight from the document's words."""
    sides = segments(points)
    if any(a == b for a, b in sides):
        return False
    for i in range(len(sides)):
        for j in range(i + 1, len(sides)):
            part = common_part(*sides[i], *sides[j])
            if j == i + 1:
                allowed = (sides[j][0], sides[j][0])
            elif i == 0 and j == len(sides) - 1:
                allowed = (sides[0][0], sides[0][0])
            else:
                allowed = None
            if part != allowed:
                return False
    return True


def winding(points, p):
    """How often the sides of a polygon go round a point that lies on none of them."""
    turns = 0
    for a, b in segments(points):
        side = cross(minus(b, a), minus(p, a))
        if a[1] <= p[1] < b[1] and side > 0:
            turns += 1
        if b[1] <= p[1] < a[1] and side < 0:
            turns -= 1
    return turns


def square_to_segment(p, a, b):
    """The squared distance of a point to a segment, by the nearest point's own coordinates."""
    v = minus(b, a)
    t = Fraction(0) if a == b else Fraction(dot(minus(p, a), v), dot(v, v))
    t = min(max(t, Fraction(0)), Fraction(1))
    away = (p[0] - a[0] - t * v[0], p[1] - a[1] - t * v[1])
    return dot(away, away)


def square_between(a, b, c, d):
    """The squared distance of two segments, either of which may be a point."""
    if a != b and c != d and common_part(a, b, c, d) is not None:
        return Fraction(0)
    return min(square_to_segment(a, c, d), square_to_segment(b, c, d),
               square_to_segment(c, a, b), square_to_segment(d, a, b))


def dist_by_fractions(points, others):
    """The answer of dist to two skeletons, reckoned with fractions."""
    least = min(square_between(*s, *t) for s in segments(points) for t in segments(others))
    for outer, inner in ((points, others), (others, points)):
        if least > 0 and len(outer) > 2 and winding(outer, inner[0]) != 0:
            least = Fraction(0)
    return [least.numerator, least.denominator]


def form_by_trial(points):
    """The form of a skeleton: that one of all orders of its points that the document's words fit."""
    if len(points) < 3:
        return sorted(points, key=lambda p: (p[1], p[0]))
    for order in (list(points), list(points)[::-1]):
        if sum(cross(a, b) for a, b in segments(order)) > 0:
            turns = [order[k:] + order[:k] for k in range(len(order))]
            return min(turns, key=lambda t: (t[0][1], t[0][0]))
    raise AssertionError(f"no area: {points}")


def where_by_fractions(r, points, p):
    """The answer of point, straight from the document's words."""
    n, d = dist_by_fractions(points, [p])
    away = Fraction(n, d)
    if away > r * r:
        return 0
    if r > 0:
        return 1 if away == r * r else 2
    return 1 if any(square_to_segment(p, a, b) == 0 for a, b in segments(points)) else 2


def inside_by_fractions(r, points, polygon, m):
    """The answer of inside: each told point enclosed, and no side of the polygon within r + m of the skeleton."""
    for p in points:
        if where_by_fractions(0, polygon, p) != 2:
            return 0
    for a, b in segments(polygon):
        n, d = dist_by_fractions(points, [a, b])
        if Fraction(n, d) < (r + m) ** 2:
            return 0
    return 1


def hull_by_wrapping(points):
    """The hull of points in its form, corner by corner round them."""
    points = sorted(set(points), key=lambda p: (p[1], p[0]))
    corners = [points[0]]
    while len(points) > 1:
        at = corners[-1]
        onwards = None
        for p in points:
            if p == at:
                continue
            turns = 0 if onwards is None else cross(minus(onwards, at), minus(p, at))
            farther = onwards is None or dot(minus(p, at), minus(p, at)) > dot(minus(onwards, at), minus(onwards, at))
            if turns < 0 or turns == 0 and farther:
                onwards = p
        if onwards == corners[0]:
            break
        corners.append(onwards)
    return corners


def sums(points, others):
    """All sums of a point of the one list and a point of the other."""
    return [(p[0] + q[0], p[1] + q[1]) for p in points for q in others]


def cover_by_cells(boxes):
    """The area that boxes (least x, least y, greatest x, greatest y) cover, cell by cell between all their edges."""
    xs = sorted({x for box in boxes for x in (box[0], box[2])})
    ys = sorted({y for box in boxes for y in (box[1], box[3])})
    area = 0
    for left, right in zip(xs, xs[1:]):
        for low, high in zip(ys, ys[1:]):
            if any(b[0] <= left and right <= b[2] and b[1] <= low and high <= b[3] for b in boxes):
                area += (right - left) * (high - low)
    return area


def box_corners(left, low, right, high):
    """The numbers of a box for put, in its form."""
    return [left, low, right, low, right, high, left, high]


def in_corners(p, a, b, c):
    """Whether a point lies in a triangle or on its rim, whichever way round it is told."""
    turns = [cross(minus(v, u), minus(p, u)) for u, v in ((a, b), (b, c), (c, a))]
    return min(turns) >= 0 or max(turns) <= 0


def triangles_by_words(points):
    """The answer of triangles to a polygon in its form, straight from the document's words."""
    left = list(range(len(points)))
    told = []
    while len(left) > 3:
        ears = []
        for k, b in enumerate(left):
            a, c = left[k - 1], left[(k + 1) % len(left)]
            turn_at = cross(minus(points[b], points[a]), minus(points[c], points[b]))
            others = [points[n] for n in left if n not in (a, b, c)]
            if turn_at > 0 and not any(in_corners(p, points[a], points[b], points[c]) for p in others):
                ears.append((b, a, c))
        b, a, c = min(ears)
        told += [a, b, c]
        left.remove(b)
    return [len(points) - 2] + told + left
