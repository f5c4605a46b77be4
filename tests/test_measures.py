"""shape, box, area and convex."""

import unittest

from lines import (BAR, FAR, NOTCH, SPOT, SQUARE, area, ask, box, clear, convex, copy, flat, flip, grow, last, put,
                   shape, shift, tidy, turn)

FLAT_SIDES = [0, 0, 2, 0, 4, 0, 4, 3, 4, 4, 2, 4, 0, 4, 0, 1]


class Shape(unittest.TestCase):
    def test_radius_and_points(self):
        for r in (0, 1, FAR):
            for numbers in (SPOT, BAR, SQUARE, NOTCH, FLAT_SIDES):
                self.assertEqual(last(put(62, r, numbers), shape(62)), [r] + numbers)

    def test_after_several_changes(self):
        self.assertEqual(ask(put(0, 2, FLAT_SIDES), shift(0, 1, 1), turn(0, 1, 0, 0), flip(0, 3), grow(0, 5), tidy(0),
                             copy(0, 1), clear(0), shape(0), shape(1))[-2:],
                         [[-2], [7, 7, 1, 11, 1, 11, 5, 7, 5]])


class Box(unittest.TestCase):
    def box_of(self, r, numbers):
        return last(put(0, r, numbers), box(0))

    def test_without_a_radius(self):
        self.assertEqual(self.box_of(0, [3, -4]), [0, 3, -4, 3, -4])
        self.assertEqual(self.box_of(0, [4, -1, 0, 2]), [0, 0, -1, 4, 2])
        self.assertEqual(self.box_of(0, [5, 1, 9, 3, 2, 8]), [0, 2, 1, 9, 8])

    def test_with_a_radius(self):
        self.assertEqual(self.box_of(10, [3, -4]), [0, -7, -14, 13, 6])
        self.assertEqual(self.box_of(1, [4, -1, 0, 2]), [0, -1, -2, 5, 3])
        self.assertEqual(self.box_of(2, [5, 1, 9, 3, 2, 8]), [0, 0, -1, 11, 10])
        self.assertEqual(last(put(0, 2, SQUARE), grow(0, 5), box(0)), [0, -7, -7, 11, 11])

    def test_beyond_the_range_of_coordinates(self):
        corners = [-FAR, -FAR, FAR, -FAR, FAR, FAR, -FAR, FAR]
        self.assertEqual(self.box_of(FAR, corners), [0, -2 * FAR, -2 * FAR, 2 * FAR, 2 * FAR])
        self.assertEqual(self.box_of(1, [FAR, -FAR]), [0, FAR - 1, -FAR - 1, FAR + 1, -FAR + 1])


class Area(unittest.TestCase):
    def area_of(self, numbers, r=0):
        return last(put(0, r, numbers), area(0))

    def test_spots_and_bars(self):
        for numbers in (SPOT, BAR, [7, 9, -4, 30], [FAR, FAR, -FAR, FAR - 1]):
            self.assertEqual(self.area_of(numbers), [0])

    def test_polygons(self):
        self.assertEqual(self.area_of(SQUARE), [32])
        self.assertEqual(self.area_of(NOTCH), [24])
        self.assertEqual(self.area_of(FLAT_SIDES), [32])
        self.assertEqual(self.area_of([0, 0, 1, 0, 0, 1]), [1])
        self.assertEqual(self.area_of([0, 0, 0, 1, 1, 0]), [1])
        self.assertEqual(self.area_of([5, 1, 9, 3, 2, 8]), [34])

    def test_far_from_the_origin(self):
        self.assertEqual(self.area_of([FAR, FAR, FAR - 1, FAR, FAR, FAR - 1]), [1])
        self.assertEqual(self.area_of([-FAR, -FAR, FAR, -FAR, FAR, FAR, -FAR, FAR]), [8 * FAR * FAR])

    def test_the_radius_is_left_out(self):
        for numbers, double in ((SPOT, 0), (BAR, 0), (SQUARE, 32)):
            self.assertEqual(self.area_of(numbers, 1000), [double])

    def test_after_changes(self):
        for change in (shift(0, 5, 5), turn(0, 1, 3, 3), flip(0, 1), grow(0, 3), tidy(0)):
            self.assertEqual(last(put(0, 0, FLAT_SIDES), change, area(0)), [32])


class Convex(unittest.TestCase):
    def convex_of(self, numbers, r=0):
        return last(put(0, r, numbers), convex(0))

    def test_spots_and_bars(self):
        for numbers in (SPOT, BAR, [7, 9, -4, 30]):
            self.assertEqual(self.convex_of(numbers), [1])

    def test_convex_polygons(self):
        for numbers in (SQUARE, SQUARE[::-1], [5, 1, 9, 3, 2, 8], [0, 0, 0, 1, 1, 0]):
            self.assertEqual(self.convex_of(numbers), [1], numbers)

    def test_flat_corners_are_allowed(self):
        self.assertEqual(self.convex_of(FLAT_SIDES), [1])
        self.assertEqual(self.convex_of([0, 0, 1, 0, 2, 0, 0, 2]), [1])

    def test_a_right_turn(self):
        for k in range(5):
            points = [(0, 0), (4, 0), (4, 4), (2, 2), (0, 4)]
            points = points[k:] + points[:k]
            self.assertEqual(self.convex_of(flat(points)), [0])
            self.assertEqual(self.convex_of(flat(points[::-1])), [0])
            self.assertEqual(last(put(0, 0, flat(points)), flip(0, 1), convex(0)), [0])
            self.assertEqual(last(put(0, 0, flat(points)), turn(0, k, 1, 1), convex(0)), [0])

    def test_the_slightest_right_turn(self):
        self.assertEqual(self.convex_of([0, 0, 1, 0, 2, -1, 5, 5]), [0])
        self.assertEqual(self.convex_of([-FAR, 0, 0, 1, FAR, 0, 0, FAR]), [0])
        self.assertEqual(self.convex_of([-FAR, 0, 0, -1, FAR, 0, 0, FAR]), [1])
        self.assertEqual(self.convex_of([-FAR, 0, 0, 0, FAR, 0, 0, FAR]), [1])

    def test_the_radius_makes_no_difference(self):
        self.assertEqual(self.convex_of(NOTCH, FAR), [0])
        self.assertEqual(self.convex_of(SQUARE, FAR), [1])


if __name__ == "__main__":
    unittest.main()
