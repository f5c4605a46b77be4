"""The sheet: places, each of which is empty or holds a shape."""

PLACES = 64
GREATEST_RADIUS = 1000000000
GREATEST_DISTANCE = 1000000000


class Shape:
    """A skeleton, told by its points in its form, and the radius by which it is grown; it is never changed."""

    def __init__(self, radius, points):
        self.radius = radius
        self.points = points


class Sheet:
    """Places for shapes, all empty at first."""

    def __init__(self):
        self.places = [None for place in range(PLACES)]

    def has(self, place):
        """Tell whether there is a place of this number."""
        return 0 <= place < PLACES

    def held(self, place):
        """Answer the shape that the place holds, None if it is empty."""
        return self.places[place]

    def hold(self, place, shape):
        """Let the place hold the shape, or nothing if that is None."""
        self.places[place] = shape

    def filled(self):
        """Answer the numbers of all places that hold a shape, in order."""
        return [place for place in range(PLACES) if self.places[place] is not None]


def is_radius(number):
    """Tell whether a shape may have this radius."""
    return 0 <= number <= GREATEST_RADIUS


def is_distance(number):
    """Tell whether shapes may be asked to keep this distance."""
    return 1 <= number <= GREATEST_DISTANCE
