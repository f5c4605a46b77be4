"""point and inside: what lies within what."""

import random
import unittest

from lines import (BAR, FAR, HUGE, NOTCH, SPOT, SQUARE, ask, box_corners, convex, flat, grow, inside,
                   inside_by_fractions, last, pairs, point, put, refused, where_by_fractions)

# Open at its right side, with a hollow from 2 to 8.
RING = [0, 0, 20, 0, 20, 2, 2, 2, 2, 8, 20, 8, 20, 10, 0, 10]
ROOM = box_corners(0, 0, 20, 20)
# A room with a wedge that comes in from above, its tip at (10, 8).
WEDGE = [0, 0, 20, 0, 20, 20, 11, 20, 10, 8, 9, 20, 0, 20]


class Point(unittest.TestCase):
    def check(self, r, numbers, x, y, expected):
        self.assertEqual(last(put(1, r, numbers), point(1, x, y)), [expected], (r, numbers, x, y))
        self.assertEqual(where_by_fractions(r, pairs(numbers), (x, y)), expected, (r, numbers, x, y))

    def test_a_bare_spot(self):
        self.check(0, [3, 4], 3, 4, 1)
        for x, y in ((3, 5), (2, 4), (4, 3), (FAR, -FAR)):
            self.check(0, [3, 4], x, y, 0)

    def test_a_bare_bar(self):
        for x, y in ((0, 0), (4, 2), (2, 1)):
            self.check(0, BAR, x, y, 1)
        for x, y in ((6, 3), (-2, -1), (1, 1), (1, 0), (3, 1)):
            self.check(0, BAR, x, y, 0)

    def test_a_bare_polygon(self):
        for x, y in ((1, 1), (2, 2), (3, 1), (1, 3)):
            self.check(0, SQUARE, x, y, 2)
        for x, y in ((0, 0), (4, 0), (4, 4), (0, 4), (2, 0), (4, 1), (3, 4), (0, 2)):
            self.check(0, SQUARE, x, y, 1)
        for x, y in ((-1, 0), (5, 4), (2, -1), (2, 5), (0, -1), (4, 5), (-1, -1)):
            self.check(0, SQUARE, x, y, 0)

    def test_a_bare_polygon_with_a_right_turn(self):
        for x, y in ((1, 1), (2, 1), (1, 2), (3, 2)):
            self.check(0, NOTCH, x, y, 2)
        for x, y in ((2, 2), (3, 3), (1, 3), (4, 4), (0, 3)):
            self.check(0, NOTCH, x, y, 1)
        for x, y in ((2, 3), (2, 4), (5, 2)):
            self.check(0, NOTCH, x, y, 0)
        for x, y, expected in ((5, 5, 0), (1, 5, 2), (5, 1, 2), (2, 5, 1), (20, 5, 0), (1, 2, 2), (1, 8, 2)):
            self.check(0, RING, x, y, expected)

    def test_a_flat_corner_is_rim(self):
        self.check(0, [0, 0, 2, 0, 4, 0, 4, 4], 2, 0, 1)
        self.check(0, [0, 0, 2, 0, 4, 0, 4, 4], 3, 1, 2)

    def test_a_grown_spot(self):
        for x, y, expected in ((3, 4, 1), (5, 0, 1), (-4, -3, 1), (0, 0, 2), (3, 3, 2), (4, 4, 0), (5, 1, 0),
                               (0, 6, 0)):
            self.check(5, [0, 0], x, y, expected)
        self.check(1, [0, 0], 0, 0, 2)
        self.check(1, [0, 0], 0, 1, 1)

    def test_a_grown_bar(self):
        for x, y, expected in ((5, 3, 1), (5, -3, 1), (-3, 0, 1), (13, 0, 1), (5, 0, 2), (0, 0, 2), (10, 2, 2),
                               (5, 4, 0), (-3, 1, 0), (12, 2, 2), (12, 3, 0), (14, 0, 0)):
            self.check(3, [0, 0, 10, 0], x, y, expected)
        # Across a bar aslant: its ends (0, 0) and (12, 16), so (x, y) is |16 x - 12 y| / 20 away.
        for x, y, expected in ((10, 5, 1), (2, 11, 1), (9, 5, 2), (11, 5, 0), (10, 4, 0), (6, 8, 2)):
            self.check(5, [0, 0, 12, 16], x, y, expected)

    def test_a_grown_polygon(self):
        for x, y in ((2, 2), (0, 0), (2, 0), (4, 4), (-1, -1), (2, -4), (6, 7)):
            self.check(5, SQUARE, x, y, 2)
        for x, y in ((2, -5), (9, 4), (-3, -4), (7, 8), (-5, 0)):
            self.check(5, SQUARE, x, y, 1)
        for x, y in ((2, -6), (10, 4), (-4, -4), (8, 8)):
            self.check(5, SQUARE, x, y, 0)

    def test_a_hollow_of_a_grown_polygon(self):
        for r, expected in ((0, 0), (1, 0), (2, 0), (3, 1), (4, 2)):
            self.check(r, RING, 5, 5, expected)

    def test_a_distance_that_is_a_fraction(self):
        # 36 / 5 is between 4 and 9: no whole radius has that point on its rim.
        self.check(2, [0, 0, 3, 6], 3, 0, 0)
        self.check(3, [0, 0, 3, 6], 3, 0, 2)

    def test_when_it_grows(self):
        answered = ask(put(1, 0, [0, 0]), point(1, 0, 0), grow(1, 5), point(1, 0, 0), point(1, 3, 4), grow(1, -1),
                       point(1, 3, 4))
        self.assertEqual(answered, [[0], [1], [0], [2], [1], [0], [0]])

    def test_the_largest_numbers(self):
        corners = box_corners(-FAR, -FAR, FAR, FAR)
        for x, y, expected in ((0, 0, 2), (FAR, FAR, 1), (-FAR, 5, 1), (FAR - 1, 1 - FAR, 2)):
            self.check(0, corners, x, y, expected)
        self.check(FAR, [0, 0], FAR, 0, 1)
        self.check(FAR, [0, 0], FAR, 1, 0)
        self.check(FAR, [0, 0], FAR - 1, 1, 2)
        self.check(FAR, [0, 0], 600000000, -800000000, 1)
        self.check(0, [-FAR, -FAR, FAR, FAR - 1], FAR, FAR, 0)
        self.check(0, [-FAR, -FAR, FAR, FAR - 1, FAR, FAR], -FAR + 1, -FAR + 1, 1)

    def test_coordinates_out_of_range(self):
        start = [put(1, 0, SPOT), put(2, FAR, [FAR, FAR])]
        for beyond in (FAR + 1, -FAR - 1, HUGE, -HUGE):
            for x, y in ((beyond, 0), (0, beyond), (beyond, beyond)):
                self.assertEqual(refused(start, point(1, x, y)), -6)
                self.assertEqual(refused(start, point(2, x, y)), -6)
                self.assertEqual(refused(start, point(3, x, y)), -2)
                self.assertEqual(refused(start, point(64, x, y)), -1)
                self.assertEqual(refused(start, point(-1, x, y)), -1)
        for x, y in ((FAR, FAR), (-FAR, FAR), (FAR, -FAR)):
            self.assertEqual(last(*start, point(1, x, y)), [0])
        self.assertEqual(refused(start, point(3, 0, 0)), -2)

    def test_all_points_about_polygons_drawn_by_chance(self):
        chance = random.Random(11)
        seen = {(r > 0, answer): 0 for r in (0, 1) for answer in (0, 1, 2)}
        while min(seen.values()) < 30:
            numbers = [chance.randint(0, 6) for k in range(2 * chance.choice([1, 2, 3, 4, 5]))]
            r = chance.choice([0, 0, 1, 2, 5])
            around = [(x, y) for x in range(-2, 9) for y in range(-2, 9)]
            answered = ask(put(1, r, numbers), *[point(1, x, y) for x, y in around])
            if answered[0] != [0]:
                continue
            for p, answer in zip(around, answered[1:]):
                self.assertEqual(answer, [where_by_fractions(r, pairs(numbers), p)], (r, numbers, p))
                seen[r > 0, answer[0]] += 1


class Inside(unittest.TestCase):
    def check(self, r, numbers, polygon, m, expected):
        """The answer, whichever way round the polygon is told."""
        for told in (polygon, flat(pairs(polygon)[::-1])):
            self.assertEqual(last(put(1, r, numbers), put(2, 0, told), inside(1, 2, m)), [expected],
                             (r, numbers, polygon, m))
        self.assertEqual(inside_by_fractions(r, pairs(numbers), pairs(polygon), m), expected)

    def just(self, numbers, polygon, room):
        """Of a skeleton that has this room to the sides: with r and m together just that, and one more."""
        for m in range(1, room + 1):
            self.check(room - m, numbers, polygon, m, 1)
            self.check(room - m + 1, numbers, polygon, m, 0)
            self.check(room - m, numbers, polygon, m + 1, 0)

    def test_m_just_kept_and_missed_by_one(self):
        self.just([10, 10], ROOM, 10)
        self.just([3, 10], ROOM, 3)
        self.just([5, 10, 15, 12], ROOM, 5)
        self.just(box_corners(4, 4, 17, 16), ROOM, 3)
        self.just([10, 2, 18, 10, 10, 18, 2, 10], ROOM, 2)
        # To the side aslant from (0, 0) to (20, 15), (x, y) is (15 x - 20 y) / 25 away.
        self.just([15, 5], [0, 0, 20, 0, 20, 15], 5)

    def test_room_that_is_a_fraction(self):
        # (12, 5) is 16 / 5 away from the side aslant: 3 is kept, 4 isn't.
        self.just([12, 5], [0, 0, 20, 0, 20, 15], 3)

    def test_on_a_side_or_beyond(self):
        for numbers in ([0, 10], [20, 20], [10, 20], [-5, 10], [25, 25], [0, 5, 10, 10], [5, 5, 25, 5], [-5, 5, 25, 5],
                        [0, 0, 20, 20], [30, 5, 40, 5]):
            self.check(0, numbers, ROOM, 1, 0)

    def test_outside_and_far_away(self):
        self.check(0, [500, 500], ROOM, 1, 0)
        self.check(0, [500, 500, 600, 500, 600, 600], ROOM, 1, 0)
        self.check(0, [-500, 10], ROOM, FAR, 0)
        # Within the hollow, outside the polygon.
        self.check(0, [10, 5], RING, 1, 0)
        self.check(0, [10, 5], RING, 3, 0)

    def test_told_points_inside_while_a_side_leaves(self):
        self.check(0, [5, 15], WEDGE, 4, 1)
        self.check(0, [15, 15], WEDGE, 4, 1)
        self.check(0, [5, 15, 15, 15], WEDGE, 1, 0)
        self.check(0, [5, 7, 15, 7], WEDGE, 1, 1)
        self.check(0, [5, 7, 15, 7], WEDGE, 2, 0)
        self.check(0, [5, 8, 15, 8], WEDGE, 1, 0)
        self.check(0, [5, 15, 10, 4, 15, 15], WEDGE, 1, 0)
        self.check(0, [18, 1, 18, 9], RING, 1, 0)

    def test_a_polygon_that_is_not_convex(self):
        self.assertEqual(last(put(0, 0, RING), convex(0)), [0])
        self.check(0, [1, 1, 1, 9], RING, 1, 1)
        self.check(1, [1, 1, 1, 9], RING, 1, 0)
        self.check(0, [10, 1, 19, 1], RING, 1, 1)
        self.check(0, [1, 1, 19, 9], RING, 1, 0)
        # Around the hollow, with a hollow of its own.
        wide = [0, 0, 60, 0, 60, 20, 20, 20, 20, 40, 60, 40, 60, 60, 0, 60]
        hook = [5, 5, 55, 5, 55, 15, 15, 15, 15, 45, 55, 45, 55, 55, 5, 55]
        self.just(hook, wide, 5)
        self.just([10, 10, 10, 50], wide, 10)
        # Its corners all lie in the polygon, the hollow's end lies in it.
        self.check(0, [5, 5, 55, 5, 55, 55, 5, 55], wide, 1, 0)

    def test_a_spike_that_reaches_into_the_shape(self):
        # No told point is near a side, and the wedge's tip lies within the shape.
        self.check(0, [2, 2, 18, 2, 18, 18, 2, 18], WEDGE, 1, 0)
        self.check(0, [2, 2, 18, 2, 18, 6, 2, 6], WEDGE, 2, 1)
        self.check(0, [2, 2, 18, 2, 18, 6, 2, 6], WEDGE, 3, 0)

    def test_a_shape_around_the_polygon(self):
        self.check(0, box_corners(-50, -50, 70, 70), ROOM, 1, 0)
        self.check(0, box_corners(-50, -50, 70, 70), RING, 1, 0)
        self.check(100, [10, 10], ROOM, 1, 0)
        self.check(100, [500, 500], ROOM, 1, 0)
        self.check(FAR, [10, 10], ROOM, 1, 0)

    def test_the_polygon_itself(self):
        for polygon in (ROOM, RING, WEDGE, NOTCH):
            for m in (1, 5, FAR):
                self.assertEqual(last(put(2, 0, polygon), inside(2, 2, m)), [0])
                self.check(0, polygon, polygon, m, 0)

    def test_flat_corners(self):
        self.just([10, 10], [0, 0, 10, 0, 20, 0, 20, 20, 10, 20, 0, 20, 0, 10], 10)

    def test_the_largest_numbers(self):
        corners = box_corners(-FAR, -FAR, FAR, FAR)
        self.check(0, [0, 0], corners, FAR, 1)
        self.check(1, [0, 0], corners, FAR, 0)
        self.check(1, [0, 0], corners, FAR - 1, 1)
        self.check(0, [1, 0], corners, FAR, 0)
        self.check(FAR - 1, [0, 0], corners, 1, 1)
        self.check(FAR, [0, 0], corners, 1, 0)

    def test_the_kind_that_is_needed(self):
        start = [put(1, 0, SPOT), put(2, 0, BAR), put(3, 1, ROOM), put(4, FAR, [5, 5]), put(5, 0, ROOM)]
        for i in range(1, 6):
            for j in (1, 2, 3, 4):
                for m in (1, FAR, 0, -1, FAR + 1, HUGE, -HUGE):
                    self.assertEqual(refused(start, inside(i, j, m)), -3)
            self.assertGreaterEqual(last(*start, inside(i, 5, 1))[0], 0)

    def test_a_distance_out_of_range(self):
        start = [put(1, 7, SPOT), put(5, 0, ROOM)]
        for m in (0, -1, FAR + 1, HUGE, -HUGE):
            self.assertEqual(refused(start, inside(1, 5, m)), -8)
            self.assertEqual(refused(start, inside(5, 5, m)), -8)
        for m in (1, FAR):
            self.assertEqual(last(*start, inside(1, 5, m)), [0])

    def test_the_one_nearest_to_0(self):
        start = [put(1, 0, SPOT), put(2, 0, BAR), put(5, 0, ROOM)]
        for m in (1, 0, -1, FAR + 1, HUGE, -HUGE):
            for i, j in ((1, 64), (64, 5), (-1, 2), (9, -1), (-1, 9), (HUGE, 1), (1, -HUGE)):
                self.assertEqual(refused(start, inside(i, j, m)), -1)
            for i, j in ((9, 5), (9, 2), (1, 9), (9, 9)):
                self.assertEqual(refused(start, inside(i, j, m)), -2)

    def test_many_by_chance(self):
        chance = random.Random(12)
        seen = [0, 0]
        while min(seen) < 150:
            size = chance.choice([20, 1000, FAR])
            polygon = [chance.randint(-size, size) for k in range(2 * chance.choice([3, 3, 4, 5]))]
            x, y = chance.randint(-size // 2, size // 2), chance.randint(-size // 2, size // 2)
            reach = size // 8
            numbers = flat([(x + chance.randint(-reach, reach), y + chance.randint(-reach, reach))
                            for k in range(chance.choice([1, 2, 3]))])
            r, m = chance.choice([0, 1, reach // 3]), chance.choice([1, 2, 1 + reach // 3])
            answered = ask(put(1, r, numbers), put(2, 0, polygon), inside(1, 2, m))
            if answered[:2] == [[0], [0]]:
                expected = inside_by_fractions(r, pairs(numbers), pairs(polygon), m)
                self.assertEqual(answered[2], [expected], (r, numbers, polygon, m))
                seen[expected] += 1


if __name__ == "__main__":
    unittest.main()
