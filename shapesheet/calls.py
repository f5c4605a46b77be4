"""The calls: what each is given, what it does to a sheet and what it answers.

A call is given a list of its whole numbers with its rows behind them. It
answers a list of whole numbers, a refusal alone. Its places have been looked
at when its own function is called.
"""

from shapesheet.boxes import box_of, covered_area
from shapesheet.distances import distance_up_to, greatest_distance, is_less, least_terms, skeleton_distance
from shapesheet.hulls import hull_of, sum_of
from shapesheet.points import all_in_range, flipped, shifted, turned
from shapesheet.refusals import (BAD_COUNT, BAD_DISTANCE, BAD_RADIUS, EMPTY_PLACE, NO_OTHER_SHAPE, NO_SKELETON,
                                 NO_SUCH_PLACE, OUT_OF_RANGE, WRONG_KIND)
from shapesheet.relations import are_apart, is_bare_polygon, is_box, lies_inside, touch, where_lies
from shapesheet.sheet import Shape, is_distance, is_radius
from shapesheet.skeletons import double_area, in_form, is_convex, is_skeleton, without_flat_corners
from shapesheet.triangles import triangles_of

MOST_POINTS = 32


def call_put(sheet, given):
    """Let a place hold the shape of these numbers."""
    radius = given[1]
    numbers = given[2]
    if not is_radius(radius):
        return [BAD_RADIUS]
    if len(numbers) % 2 != 0 or len(numbers) < 2 or len(numbers) > 2 * MOST_POINTS:
        return [BAD_COUNT]
    points = [(numbers[k], numbers[k + 1]) for k in range(0, len(numbers), 2)]
    if not all_in_range(points):
        return [OUT_OF_RANGE]
    if not is_skeleton(points):
        return [NO_SKELETON]
    sheet.hold(given[0], Shape(radius, in_form(points)))
    return [0]


def call_clear(sheet, given):
    """Empty a place, and tell whether it held a shape."""
    shape = sheet.held(given[0])
    sheet.hold(given[0], None)
    return [0 if shape is None else 1]


def call_copy(sheet, given):
    """Let a place hold what another one holds."""
    sheet.hold(given[1], sheet.held(given[0]))
    return [0]


def move_to(sheet, place, points):
    """Give the shape at the place these points, unless one of them is out of range."""
    if not all_in_range(points):
        return [OUT_OF_RANGE]
    sheet.hold(place, Shape(sheet.held(place).radius, in_form(points)))
    return [0]


def call_shift(sheet, given):
    """Move a shape to the right and upwards."""
    return move_to(sheet, given[0], shifted(sheet.held(given[0]).points, given[1], given[2]))


def call_turn(sheet, given):
    """Turn a shape by quarter turns."""
    return move_to(sheet, given[0], turned(sheet.held(given[0]).points, given[1], given[2], given[3]))


def call_flip(sheet, given):
    """Mirror a shape."""
    return move_to(sheet, given[0], flipped(sheet.held(given[0]).points, given[1]))


def call_grow(sheet, given):
    """Let a shape's radius grow."""
    shape = sheet.held(given[0])
    radius = shape.radius + given[1]
    if not is_radius(radius):
        return [BAD_RADIUS]
    sheet.hold(given[0], Shape(radius, shape.points))
    return [0]


def call_tidy(sheet, given):
    """Leave out flat corners, and tell how many points are left."""
    shape = sheet.held(given[0])
    # The form's first corner is never flat, so what is left is still in its form.
    points = without_flat_corners(shape.points)
    sheet.hold(given[0], Shape(shape.radius, points))
    return [len(points)]


def call_shape(sheet, given):
    """Answer a shape's radius and coordinates."""
    shape = sheet.held(given[0])
    answer = [shape.radius]
    for x, y in shape.points:
        answer.append(x)
        answer.append(y)
    return answer


def call_box(sheet, given):
    """Answer the sides of the least upright box around a shape."""
    shape = sheet.held(given[0])
    r = shape.radius
    around = box_of(shape.points)
    return [0, around[0] - r, around[1] - r, around[2] + r, around[3] + r]


def call_area(sheet, given):
    """Answer twice the area of a skeleton."""
    return [double_area(sheet.held(given[0]).points)]


def call_convex(sheet, given):
    """Tell whether a skeleton is convex."""
    return [int(is_convex(sheet.held(given[0]).points))]


def call_dist(sheet, given):
    """Answer the square of the least distance of two skeletons."""
    return list(skeleton_distance(sheet.held(given[0]).points, sheet.held(given[1]).points))


def call_far(sheet, given):
    """Answer the square of the greatest distance of two skeletons."""
    return [greatest_distance(sheet.held(given[0]).points, sheet.held(given[1]).points)]


def call_touch(sheet, given):
    """Tell whether two shapes have a point in common."""
    return [int(touch(sheet.held(given[0]), sheet.held(given[1])))]


def call_apart(sheet, given):
    """Tell whether two shapes keep a distance."""
    if not is_distance(given[2]):
        return [BAD_DISTANCE]
    return [int(are_apart(sheet.held(given[0]), sheet.held(given[1]), given[2]))]


def call_point(sheet, given):
    """Tell where a point lies: 0 outside a shape, 1 on its rim, 2 in its inside."""
    p = (given[1], given[2])
    if not all_in_range([p]):
        return [OUT_OF_RANGE]
    return [where_lies(p, sheet.held(given[0]))]


def call_inside(sheet, given):
    """Tell whether a shape lies in a polygon and keeps a distance from its sides."""
    polygon = sheet.held(given[1])
    if not is_bare_polygon(polygon):
        return [WRONG_KIND]
    if not is_distance(given[2]):
        return [BAD_DISTANCE]
    return [int(lies_inside(sheet.held(given[0]), polygon, given[2]))]


def call_hull(sheet, given):
    """Let a place hold the hull of skeletons, and tell how many points it has."""
    points = []
    for place in given[1]:
        points.extend(sheet.held(place).points)
    if len(points) == 0:
        return [BAD_COUNT]
    hull = hull_of(points)
    if len(hull) > MOST_POINTS:
        return [BAD_COUNT]
    sheet.hold(given[0], Shape(0, hull))
    return [len(hull)]


def call_sum(sheet, given):
    """Let a place hold the sum of two shapes, and tell how many points it has."""
    one = sheet.held(given[0])
    other = sheet.held(given[1])
    if not is_convex(one.points) or not is_convex(other.points):
        return [WRONG_KIND]
    radius = one.radius + other.radius
    if not is_radius(radius):
        return [BAD_RADIUS]
    points = sum_of(one.points, other.points)
    if len(points) > MOST_POINTS:
        return [BAD_COUNT]
    if not all_in_range(points):
        return [OUT_OF_RANGE]
    sheet.hold(given[2], Shape(radius, points))
    return [len(points)]


def call_near(sheet, given):
    """Answer the place whose skeleton is nearest to that of this one, and the square of its distance."""
    points = sheet.held(given[0]).points
    others = [place for place in sheet.filled() if place != given[0]]
    if len(others) == 0:
        return [NO_OTHER_SHAPE]
    nearest = others[0]
    least = skeleton_distance(points, sheet.held(nearest).points)
    for place in others[1:]:
        distance = distance_up_to(points, sheet.held(place).points, least)
        if is_less(distance, least):
            nearest = place
            least = distance
    return [nearest] + list(least_terms(least))


def call_close(sheet, given):
    """Answer all pairs of places whose shapes don't keep a distance."""
    if not is_distance(given[0]):
        return [BAD_DISTANCE]
    places = sheet.filled()
    pairs = []
    for i in places:
        for j in places:
            if i < j and not are_apart(sheet.held(i), sheet.held(j), given[0]):
                pairs.append((i, j))
    return counted(pairs)


def counted(groups):
    """Answer how many groups of numbers there are, then all their numbers."""
    answer = [len(groups)]
    for group in groups:
        answer.extend(group)
    return answer


def call_cover(sheet, given):
    """Answer the area that is covered by at least one of several boxes."""
    shapes = [sheet.held(place) for place in given[0]]
    for shape in shapes:
        if not is_box(shape):
            return [WRONG_KIND]
    return [covered_area([box_of(shape.points) for shape in shapes])]


def call_triangles(sheet, given):
    """Answer the triangles into which a polygon is cut."""
    points = sheet.held(given[0]).points
    if len(points) < 3:
        return [WRONG_KIND]
    return counted(triangles_of(points))


def call_all(sheet, given):
    """Answer the places that hold a shape."""
    places = sheet.filled()
    return [len(places)] + places


# Of each call: how many whole numbers it has, how many rows, which of what
# it is given are places or rows of places, which of these must hold a shape,
# and its function.
CALLS = {
    0: (2, 1, (0,), (), call_put),
    1: (1, 0, (0,), (), call_clear),
    2: (2, 0, (0, 1), (0,), call_copy),
    3: (3, 0, (0,), (0,), call_shift),
    4: (4, 0, (0,), (0,), call_turn),
    5: (2, 0, (0,), (0,), call_flip),
    6: (2, 0, (0,), (0,), call_grow),
    7: (1, 0, (0,), (0,), call_tidy),
    8: (1, 0, (0,), (0,), call_shape),
    9: (1, 0, (0,), (0,), call_box),
    10: (1, 0, (0,), (0,), call_area),
    11: (1, 0, (0,), (0,), call_convex),
    12: (2, 0, (0, 1), (0, 1), call_dist),
    13: (2, 0, (0, 1), (0, 1), call_far),
    14: (2, 0, (0, 1), (0, 1), call_touch),
    15: (3, 0, (0, 1), (0, 1), call_apart),
    16: (3, 0, (0,), (0,), call_point),
    17: (3, 0, (0, 1), (0, 1), call_inside),
    18: (1, 1, (0, 1), (1,), call_hull),
    19: (3, 0, (0, 1, 2), (0, 1), call_sum),
    20: (1, 0, (0,), (0,), call_near),
    21: (1, 0, (), (), call_close),
    22: (0, 1, (0,), (0,), call_cover),
    23: (1, 0, (0,), (0,), call_triangles),
    24: (0, 0, (), (), call_all),
}


def whole_numbers_of(call):
    """Answer how many whole numbers the call has before its rows."""
    return CALLS[call][0]


def rows_of(call):
    """Answer how many rows the call has."""
    return CALLS[call][1]


def places_in(given, indexes):
    """Answer the places that lie at these indexes in what a call is given, those of a row one by one."""
    places = []
    for k in indexes:
        if isinstance(given[k], list):
            places.extend(given[k])
        else:
            places.append(given[k])
    return places


def place_refusal(sheet, told, looked_at):
    """Answer the refusal that is due for a call's places, 0 if none is."""
    for place in told:
        if not sheet.has(place):
            return NO_SUCH_PLACE
    for place in looked_at:
        if sheet.held(place) is None:
            return EMPTY_PLACE
    return 0


def answer_to(sheet, call, given):
    """Carry out one call on the sheet and give back its answer."""
    entry = CALLS[call]
    # Refusals of places are nearer to 0 than all others, so they come first.
    refusal = place_refusal(sheet, places_in(given, entry[2]), places_in(given, entry[3]))
    if refusal < 0:
        return [refusal]
    function = entry[4]
    return function(sheet, given)
