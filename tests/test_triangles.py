"""triangles: polygons cut corner by corner."""

import random
import unittest

from lines import (BAR, FAR, HUGE, NOTCH, SPOT, SQUARE, area, ask, cross, flat, flip, form_by_trial, hull, last, minus,
                   pairs, put, refused, shape, shift, tidy, triangles, triangles_by_words, turn)

COMB = [(k, 0) for k in range(16)] + [(15 - k, 1 + (15 - k) % 2) for k in range(16)]
TEETH = [(0, 0), (30, 0)] + [(30 - k, 5 if k % 2 == 0 else 1) for k in range(30)]
BOWL = [(x, x * x) for x in range(-16, 16)]


class Triangles(unittest.TestCase):
    def check(self, numbers, expected, r=0):
        self.assertEqual(last(put(1, r, numbers), triangles(1)), expected, numbers)
        self.assertEqual(triangles_by_words(form_by_trial(pairs(numbers))), expected)

    def whole(self, numbers):
        """That the triangles are as the words tell, have the polygon's area together and turn to the left."""
        answered = ask(put(1, 0, numbers), shape(1), triangles(1), area(1))
        points = pairs(answered[1][1:])
        told = answered[2]
        self.assertEqual(told, triangles_by_words(points), numbers)
        self.assertEqual(told[0], len(points) - 2)
        self.assertEqual(len(told), 1 + 3 * told[0])
        doubled = 0
        for k in range(1, len(told), 3):
            a, b, c = [points[number] for number in told[k:k + 3]]
            self.assertGreater(cross(minus(b, a), minus(c, a)), 0)
            doubled += cross(minus(b, a), minus(c, a))
        self.assertEqual([doubled], answered[3])

    def test_three_corners(self):
        self.check([0, 0, 4, 0, 0, 4], [1, 0, 1, 2])
        self.check([0, 4, 4, 0, 0, 0], [1, 0, 1, 2])
        self.check([-FAR, -FAR, FAR, FAR - 1, FAR, FAR], [1, 0, 1, 2])

    def test_a_convex_polygon(self):
        self.check(SQUARE, [2, 3, 0, 1, 1, 2, 3])
        self.check([0, 0, 2, 0, 3, 2, 1, 3, -1, 2], [3, 4, 0, 1, 4, 1, 2, 2, 3, 4])
        self.check(flat(form_by_trial(BOWL)[:6]), [4, 5, 0, 1, 5, 1, 2, 5, 2, 3, 3, 4, 5])

    def test_polygons_with_right_turns(self):
        # Corner 3 of the notch, (2, 2), lies on a side of the triangles at 0 and 1, so 2 is the first ear.
        self.check(NOTCH, [3, 1, 2, 3, 0, 1, 3, 0, 3, 4])
        self.check([0, 0, 4, 0, 4, 4, 2, 1, 0, 4], [3, 1, 2, 3, 0, 1, 3, 0, 3, 4])
        self.check([0, 0, 4, 0, 4, 4, 2, 3, 0, 4], [3, 4, 0, 1, 1, 2, 3, 1, 3, 4])
        # A right turn at 0's neighbour.
        self.check([0, 0, 1, 2, 4, 1, 2, 9], [2, 3, 0, 1, 1, 2, 3])

    def test_a_corner_on_the_side_of_a_would_be_ear(self):
        # (2, 2) on the side from 3 to 1 of the triangle 3, 0, 1.
        self.check([0, 0, 4, 0, 2, 2, 0, 4], [2, 0, 1, 2, 0, 2, 3])
        self.check([0, 0, 6, 0, 6, 6, 3, 3, 0, 6], [3, 1, 2, 3, 0, 1, 3, 0, 3, 4])
        # (2, 3) is beyond that side, (2, 1) before it.
        self.check([0, 0, 4, 0, 2, 3, 0, 4], [2, 3, 0, 1, 1, 2, 3])
        self.check([0, 0, 4, 0, 2, 1, 0, 4], [2, 0, 1, 2, 0, 2, 3])

    def test_flat_corners(self):
        self.check([0, 0, 2, 0, 4, 0, 0, 4], [2, 3, 0, 1, 1, 2, 3])
        self.check([0, 0, 4, 0, 2, 2, 0, 4], [2, 0, 1, 2, 0, 2, 3])
        self.check([0, 0, 4, 0, 0, 4, 0, 2], [2, 3, 0, 1, 1, 2, 3])

    def test_several_flat_corners_in_one_row(self):
        self.check([0, 0, 1, 0, 2, 0, 3, 0, 0, 3], [3, 4, 0, 1, 4, 1, 2, 2, 3, 4])
        self.check([0, 0, 3, 0, 2, 1, 1, 2, 0, 3], [3, 0, 1, 2, 0, 2, 3, 0, 3, 4])
        self.check([0, 0, 3, 0, 0, 3, 0, 2, 0, 1], [3, 4, 0, 1, 1, 2, 3, 1, 3, 4])
        for points in ([(0, 0), (1, 0), (2, 0), (3, 0), (2, 1), (1, 2), (0, 3), (0, 2), (0, 1)],
                       [(k, 0) for k in range(31)] + [(0, 9)],
                       [(0, 0)] + [(31 - k, k) for k in range(31)],
                       [(0, 0), (9, 0), (9, 9)] + [(8 - k, 9) for k in range(8)] + [(0, 9), (0, 5), (0, 2)]):
            self.whole(flat(points))

    def test_thirty_two_corners(self):
        for points in (COMB, TEETH, BOWL, [(x, -y) for x, y in TEETH], [(y, x) for x, y in COMB]):
            self.assertEqual(len(points), 32)
            self.whole(flat(points))
        corners = form_by_trial(BOWL)
        self.assertEqual(last(put(0, 0, flat(corners)), triangles(0)),
                         [30] + [number for k in range(29) for number in (31, k, k + 1)] + [29, 30, 31])

    def test_the_numbers_are_those_of_the_form(self):
        points = [(0, 0), (4, 0), (4, 4), (2, 3), (0, 4)]
        for order in (points, points[::-1]):
            for k in range(5):
                self.check(flat(order[k:] + order[:k]), [3, 4, 0, 1, 1, 2, 3, 1, 3, 4])

    def test_of_shapes_that_were_moved_and_made(self):
        answered = ask(put(0, 0, NOTCH), turn(0, 2, 2, 2), shape(0), triangles(0), flip(0, 2), triangles(0),
                       shift(0, 5, 5), triangles(0), hull(1, [0]), triangles(1), put(2, 0, [0, 0, 2, 0, 4, 0, 0, 4]),
                       triangles(2), tidy(2), triangles(2))
        turned = [3, 4, 0, 1, 1, 2, 3, 1, 3, 4]
        self.assertEqual(answered[2], [0, 0, 0, 2, 2, 4, 0, 4, 4, 0, 4])
        self.assertEqual([answered[k] for k in (3, 5, 7, 9, 11, 13)],
                         [turned, turned, turned, [2, 3, 0, 1, 1, 2, 3], [2, 3, 0, 1, 1, 2, 3], [1, 0, 1, 2]])

    def test_the_radius_makes_no_difference(self):
        self.check(SQUARE, [2, 3, 0, 1, 1, 2, 3], r=FAR)

    def test_the_largest_coordinates(self):
        self.whole([-FAR, -FAR, FAR, -FAR, FAR, FAR, 0, 1 - FAR, -FAR, FAR])
        self.whole([-FAR, -FAR, 0, -1, FAR, FAR - 1, FAR, FAR])

    def test_refusals(self):
        start = [put(1, 0, SPOT), put(2, 5, BAR), put(3, 0, SQUARE)]
        self.assertEqual(refused(start, triangles(1)), -3)
        self.assertEqual(refused(start, triangles(2)), -3)
        self.assertEqual(refused(start, triangles(4)), -2)
        for place in (-1, 64, HUGE, -HUGE):
            self.assertEqual(refused(start, triangles(place)), -1)

    def test_polygons_by_chance(self):
        chance = random.Random(51)
        counts = {count: 0 for count in range(4, 9)}
        while min(counts.values()) < 60:
            size = chance.choice([3, 5, 9, FAR])
            points = [(chance.randint(0, size), chance.randint(0, size)) for k in range(chance.randint(4, 8))]
            if counts[len(points)] < 200 and ask(put(1, 0, flat(points))) == [[0]]:
                self.whole(flat(points))
                counts[len(points)] += 1


if __name__ == "__main__":
    unittest.main()
