"""put: which points are a skeleton, and the form in which they are kept."""

import unittest

from lines import BAR, FAR, HUGE, NOTCH, SPOT, SQUARE, ask, flat, form_by_trial, last, pairs, put, shape, whole_sheet

COMB = [(k, 0) for k in range(16)] + [(15 - k, 1 + (15 - k) % 2) for k in range(16)]


def refusal(r, numbers, place=3):
    """put's answer on a place that held something, checked to have changed nothing."""
    start = [put(3, 9, NOTCH)]
    before = ask(*start, *whole_sheet())[1:]
    answered = ask(*start, put(place, r, numbers), *whole_sheet())
    if answered[1][0] < 0 and answered[2:] != before:
        raise AssertionError("a refused put has changed the sheet")
    return answered[1]


class Kept(unittest.TestCase):
    def kept(self, numbers, expected):
        self.assertEqual(ask(put(7, 5, numbers), shape(7)), [[0], [5] + expected], numbers)

    def test_a_spot(self):
        self.kept(SPOT, SPOT)
        self.kept([0, 0], [0, 0])
        self.kept([-FAR, FAR], [-FAR, FAR])

    def test_a_bar_given_in_either_order(self):
        for ends in ([0, 0, 4, 2], [4, 2, 0, 0]):
            self.kept(ends, [0, 0, 4, 2])
        for ends in ([4, 0, 0, 2], [0, 2, 4, 0]):
            self.kept(ends, [4, 0, 0, 2])
        for ends in ([-1, 5, 6, 5], [6, 5, -1, 5]):
            self.kept(ends, [-1, 5, 6, 5])
        for ends in ([2, -5, 2, 5], [2, 5, 2, -5]):
            self.kept(ends, [2, -5, 2, 5])

    def test_a_polygon_either_way_round_and_from_any_corner(self):
        flat_sides = [(0, 0), (2, 0), (4, 0), (4, 3), (4, 4), (2, 4), (0, 4), (0, 1)]
        lowest_twice = [(1, -1), (3, -1), (3, 0), (5, -1), (6, 5)]
        for form in (pairs(SQUARE), pairs(NOTCH), flat_sides, lowest_twice, [(0, 0), (1, 0), (0, 1)], COMB):
            for order in (form, form[::-1]):
                for k in range(len(form)):
                    self.kept(flat(order[k:] + order[:k]), flat(form))

    def test_the_lowest_corner_that_is_leftmost_comes_first(self):
        self.kept([5, 0, 9, 5, 1, 0, 3, 1], [1, 0, 3, 1, 5, 0, 9, 5])
        self.kept([-5, 3, 0, -2, 5, 3], [0, -2, 5, 3, -5, 3])

    def test_flat_corners_are_kept(self):
        self.kept([0, 0, 1, 0, 2, 0, 3, 0, 0, 3], [0, 0, 1, 0, 2, 0, 3, 0, 0, 3])
        self.kept([0, 3, 3, 0, 2, 0, 1, 0, 0, 0], [0, 0, 1, 0, 2, 0, 3, 0, 0, 3])

    def test_thirty_two_corners(self):
        self.assertEqual(len(COMB), 32)
        self.assertEqual(form_by_trial(COMB), COMB)
        self.kept(flat(COMB), flat(COMB))

    def test_the_largest_coordinates(self):
        corners = [-FAR, -FAR, FAR, -FAR, FAR, FAR, -FAR, FAR]
        self.kept(corners, corners)
        thin = [-FAR, -FAR, FAR, FAR - 1, FAR, FAR]
        self.kept(thin, thin)
        self.assertEqual(refusal(0, [-FAR, -FAR, 0, 0, FAR, FAR]), [-7])

    def test_what_was_there_is_gone(self):
        self.assertEqual(last(put(1, 4, SQUARE), put(1, 0, SPOT), shape(1)), [0] + SPOT)
        self.assertEqual(last(put(1, 0, SPOT), put(1, 4, BAR), shape(1)), [4] + BAR)

    def test_no_other_place_is_written_to(self):
        answered = ask(put(0, 1, SPOT), put(63, 2, BAR), put(31, 3, SQUARE), *whole_sheet())[3:]
        held = {0: [1] + SPOT, 63: [2] + BAR, 31: [3] + SQUARE}
        self.assertEqual(answered, [held.get(place, [-2]) for place in range(64)])


class Refused(unittest.TestCase):
    def test_places(self):
        for place in (-1, 64, -FAR, FAR, -HUGE, HUGE):
            self.assertEqual(refusal(0, SPOT, place), [-1])
        for place in (0, 63):
            self.assertEqual(refusal(0, SPOT, place), [0])

    def test_radii(self):
        for r in (-1, FAR + 1, -HUGE, HUGE):
            self.assertEqual(refusal(r, SPOT), [-4])
        for r in (0, 1, FAR):
            self.assertEqual(ask(put(3, r, SPOT), shape(3)), [[0], [r] + SPOT])

    def test_counts(self):
        for count in (0, 1, 3, 5, 31, 63, 65, 66, 67, 99, 100):
            numbers = flat(COMB + COMB)[:count]
            self.assertEqual(refusal(0, numbers), [-5], count)
            self.assertEqual(refusal(0, [0] * count), [-5], count)
        self.assertEqual(refusal(0, flat(COMB)), [0])
        self.assertEqual(len(flat(COMB)), 64)

    def test_coordinates(self):
        for far in (FAR + 1, -FAR - 1, HUGE, -HUGE):
            for start in ([0, 1], [0, 0, 1, 3], SQUARE, flat(COMB)):
                for k in range(len(start)):
                    numbers = start[:k] + [far] + start[k + 1:]
                    self.assertEqual(refusal(0, numbers), [-6], numbers)

    def test_two_points_alike(self):
        for point in ([0, 0], [5, -7], [FAR, FAR]):
            self.assertEqual(refusal(0, point + point), [-7])

    def test_the_one_nearest_to_0(self):
        bad_place, bad_radius, bad_count, far, alike = 64, FAR + 1, [1, 2, 3], [HUGE, 0, HUGE, 0], [1, 1, 1, 1]
        self.assertEqual(refusal(bad_radius, bad_count, bad_place), [-1])
        self.assertEqual(refusal(bad_radius, far, bad_place), [-1])
        self.assertEqual(refusal(0, alike, bad_place), [-1])
        self.assertEqual(refusal(bad_radius, bad_count), [-4])
        self.assertEqual(refusal(bad_radius, []), [-4])
        self.assertEqual(refusal(bad_radius, far), [-4])
        self.assertEqual(refusal(-1, alike), [-4])
        self.assertEqual(refusal(0, [HUGE] * 3), [-5])
        self.assertEqual(refusal(0, [HUGE] * 66), [-5])
        self.assertEqual(refusal(0, [1] * 100), [-5])
        self.assertEqual(refusal(0, far), [-6])
        self.assertEqual(refusal(0, [0, 0, 4, 4, 4, 0, 0, FAR + 1, 0, 0]), [-6])


class NoSimplePolygon(unittest.TestCase):
    def no_polygon(self, points):
        """Refused in whatever order it is told."""
        for order in (points, points[::-1]):
            for k in range(len(points)):
                numbers = flat(order[k:] + order[:k])
                self.assertEqual(refusal(0, numbers), [-7], numbers)

    def test_corners_alike(self):
        self.no_polygon([(0, 0), (0, 0), (0, 0)])
        self.no_polygon([(0, 0), (0, 0), (4, 0)])
        self.no_polygon([(0, 0), (4, 0), (4, 0), (4, 4)])
        self.no_polygon([(0, 0), (4, 0), (4, 4), (0, 4), (0, 0)])
        self.no_polygon([(0, 0), (2, 0), (2, 0), (4, 0), (4, 4)])

    def test_all_in_one_line(self):
        self.no_polygon([(0, 0), (1, 0), (2, 0)])
        self.no_polygon([(0, 0), (1, 1), (3, 3), (2, 2)])
        self.no_polygon([(0, 0), (0, 5), (0, 2), (0, 7)])

    def test_sides_that_turn_back(self):
        self.no_polygon([(0, 0), (4, 0), (4, 4), (4, 2)])
        self.no_polygon([(0, 0), (4, 0), (4, 4), (6, 6)])
        self.no_polygon([(0, 0), (6, 0), (3, 0), (3, 3), (0, 3)])
        self.no_polygon([(0, 0), (0, 6), (0, 3), (3, 3), (3, 0)])
        self.no_polygon([(0, 0), (2, 0), (2, 2), (2, 5), (2, 2), (0, 2)])

    def test_sides_that_cross(self):
        self.no_polygon([(0, 0), (4, 4), (4, 0), (0, 4)])
        self.no_polygon([(0, 0), (4, 0), (4, 4), (3, -1), (0, 4)])
        self.no_polygon([(0, 3), (5, 0), (-5, 0), (0, -3), (1, 9)])
        # The five points of a star.
        self.no_polygon([(0, 10), (6, -8), (-10, 3), (10, 3), (-6, -8)])

    def test_a_corner_on_another_side(self):
        self.no_polygon([(0, 0), (4, 0), (4, 4), (2, 0), (0, 4)])
        self.no_polygon([(0, 0), (6, 3), (6, 6), (2, 1), (-2, 6)])

    def test_a_corner_met_twice(self):
        self.no_polygon([(0, 0), (2, 2), (4, 0), (4, 4), (2, 2), (0, 4)])
        self.no_polygon([(0, 0), (6, 0), (6, 6), (2, 2), (3, 5), (2, 2)])
        self.no_polygon([(0, 0), (4, 0), (4, 4), (0, 0), (-4, 4), (-4, 0)])

    def test_sides_that_lie_on_one_another(self):
        self.no_polygon([(0, 0), (6, 0), (6, 4), (4, 0), (2, 0), (0, 4)])
        self.no_polygon([(0, 0), (4, 0), (4, 4), (0, 4), (0, 0), (4, 0), (4, 4), (0, 4)])
        self.no_polygon([(0, 0), (2, 0), (4, 0), (4, 2), (3, 0), (1, 0), (0, 2)])

    def test_near_misses_are_polygons(self):
        for points in ([(0, 0), (4, 0), (4, 4), (2, 1), (0, 4)],
                       [(0, 0), (6, 0), (6, 4), (4, 1), (2, 1), (0, 4)],
                       [(0, 0), (2, 1), (4, 0), (4, 4), (2, 2), (0, 4)],
                       [(0, 0), (4, 0), (8, 0), (8, 4), (4, 4), (4, 8), (0, 8), (0, 4)],
                       # Sides on one line that don't follow one another and are apart.
                       [(0, 0), (2, 0), (2, 1), (4, 1), (4, 0), (6, 0), (6, 5), (0, 5)]):
            self.assertEqual(refusal(0, flat(points)), [0], points)
            self.assertEqual(refusal(0, flat(points[::-1])), [0], points)

    def test_a_crossing_among_thirty_two_corners(self):
        for k in range(1, 30):
            points = list(COMB)
            points[k], points[k + 2] = points[k + 2], points[k]
            self.assertEqual(refusal(0, flat(points)), [-7], k)


if __name__ == "__main__":
    unittest.main()
