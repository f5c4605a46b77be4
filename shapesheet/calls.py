"""The calls: what each is given, what it does to a sheet and what it answers.

A call is given a list of its whole numbers with its rows behind them. It
answers a list of whole numbers, a refusal alone. Its places have been looked
at when its own function is called.
"""

from shapesheet.distances import skeleton_distance
from shapesheet.points import all_in_range, flipped, shifted, turned
from shapesheet.refusals import BAD_COUNT, BAD_RADIUS, EMPTY_PLACE, NO_SKELETON, NO_SUCH_PLACE, OUT_OF_RANGE
from shapesheet.sheet import Shape, is_radius
from shapesheet.skeletons import double_area, in_form, is_convex, is_skeleton, without_flat_corners

MOST_POINTS = 32


def call_put(sheet, given):
    """Let a place hold the shape of these numbers."""
    radius = given[1]
    numbers = given[2]
    if not is_radius(radius):
        return [BAD_RADIUS]
    if len(numbers) % 2 != 0 or len(numbers) < 2 or len(numbers) > 2 * MOST_POINTS:
        return [BAD_COUNT]
    points = [(numbers[k], numbers[k + 1]) for k in range(0, len(numbers), 2)]
    if not all_in_range(points):
        return [OUT_OF_RANGE]
    if not is_skeleton(points):
        return [NO_SKELETON]
    sheet.hold(given[0], Shape(radius, in_form(points)))
    return [0]


def call_clear(sheet, given):
    """Empty a place, and tell whether it held a shape."""
    shape = sheet.held(given[0])
    sheet.hold(given[0], None)
    return [0 if shape is None else 1]


def call_copy(sheet, given):
    """Let a place hold what another one holds."""
    sheet.hold(given[1], sheet.held(given[0]))
    return [0]


def move_to(sheet, place, points):
    """Give the shape at the place these points, unless one of them is out of range."""
    if not all_in_range(points):
        return [OUT_OF_RANGE]
    sheet.hold(place, Shape(sheet.held(place).radius, in_form(points)))
    return [0]


def call_shift(sheet, given):
    """Move a shape to the right and upwards."""
    return move_to(sheet, given[0], shifted(sheet.held(given[0]).points, given[1], given[2]))


def call_turn(sheet, given):
    """Turn a shape by quarter turns."""
    return move_to(sheet, given[0], turned(sheet.held(given[0]).points, given[1], given[2], given[3]))


def call_flip(sheet, given):
    """Mirror a shape."""
    return move_to(sheet, given[0], flipped(sheet.held(given[0]).points, given[1]))


def call_grow(sheet, given):
    """Let a shape's radius grow."""
    shape = sheet.held(given[0])
    radius = shape.radius + given[1]
    if not is_radius(radius):
        return [BAD_RADIUS]
    sheet.hold(given[0], Shape(radius, shape.points))
    return [0]


def call_tidy(sheet, given):
    """Leave out flat corners, and tell how many points are left."""
    shape = sheet.held(given[0])
    # The form's first corner is never flat, so what is left is still in its form.
    points = without_flat_corners(shape.points)
    sheet.hold(given[0], Shape(shape.radius, points))
    return [len(points)]


def call_shape(sheet, given):
    """Answer a shape's radius and coordinates."""
    shape = sheet.held(given[0])
    answer = [shape.radius]
    for x, y in shape.points:
        answer.append(x)
        answer.append(y)
    return answer


def call_box(sheet, given):
    """Answer the sides of the least upright box around a shape."""
    shape = sheet.held(given[0])
    r = shape.radius
    xs = [x for x, y in shape.points]
    ys = [y for x, y in shape.points]
    return [0, min(xs) - r, min(ys) - r, max(xs) + r, max(ys) + r]


def call_area(sheet, given):
    """Answer twice the area of a skeleton."""
    return [double_area(sheet.held(given[0]).points)]


def call_convex(sheet, given):
    """Tell whether a skeleton is convex."""
    return [1 if is_convex(sheet.held(given[0]).points) else 0]


def call_dist(sheet, given):
    """Answer the square of the least distance of two skeletons."""
    return list(skeleton_distance(sheet.held(given[0]).points, sheet.held(given[1]).points))


# Of each call: how many whole numbers it has, how many rows, which of what
# it is given are places, which of these must hold a shape, and its function.
CALLS = {
    0: (2, 1, (0,), (), call_put),
    1: (1, 0, (0,), (), call_clear),
    2: (2, 0, (0, 1), (0,), call_copy),
    3: (3, 0, (0,), (0,), call_shift),
    4: (4, 0, (0,), (0,), call_turn),
    5: (2, 0, (0,), (0,), call_flip),
    6: (2, 0, (0,), (0,), call_grow),
    7: (1, 0, (0,), (0,), call_tidy),
    8: (1, 0, (0,), (0,), call_shape),
    9: (1, 0, (0,), (0,), call_box),
    10: (1, 0, (0,), (0,), call_area),
    11: (1, 0, (0,), (0,), call_convex),
    12: (2, 0, (0, 1), (0, 1), call_dist),
}


def whole_numbers_of(call):
    """Answer how many whole numbers the call has before its rows."""
    return CALLS[call][0]


def rows_of(call):
    """Answer how many rows the call has."""
    return CALLS[call][1]


def place_refusal(sheet, told, looked_at):
    """Answer the refusal that is due for a call's places, 0 if none is."""
    for place in told:
        if not sheet.has(place):
            return NO_SUCH_PLACE
    for place in looked_at:
        if sheet.held(place) is None:
            return EMPTY_PLACE
    return 0


def answer_to(sheet, call, given):
    """Carry out one call on the sheet and give back its answer."""
    entry = CALLS[call]
    # Refusals of places are nearer to 0 than all others, so they come first.
    refusal = place_refusal(sheet, [given[k] for k in entry[2]], [given[k] for k in entry[3]])
    if refusal < 0:
        return [refusal]
    function = entry[4]
    return function(sheet, given)
