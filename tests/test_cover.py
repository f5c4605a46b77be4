"""cover: the area of boxes together."""

import random
import unittest

from lines import (BAR, FAR, HUGE, NOTCH, SPOT, SQUARE, ask, box_corners, clear, copy, cover, cover_by_cells, flat,
                   flip, grow, hull, last, pairs, put, refused, shift, summed, tidy, turn)

FIVE = [0, 0, 2, 0, 4, 0, 4, 4, 0, 4]


class Cover(unittest.TestCase):
    def check(self, boxes, expected):
        """The area of boxes, told in several orders."""
        start = [put(place, 0, box_corners(*box)) for place, box in enumerate(boxes)]
        places = list(range(len(boxes)))
        for order in (places, places[::-1], places + places, places[1:] + places[:1]):
            self.assertEqual(last(*start, cover(order)), [expected], boxes)
        self.assertEqual(cover_by_cells(boxes), expected)

    def test_no_places(self):
        self.assertEqual(ask(cover([])), [[0]])
        self.assertEqual(last(put(0, 0, SQUARE), cover([])), [0])

    def test_one_box(self):
        self.check([(0, 0, 4, 4)], 16)
        self.check([(-7, 3, -5, 100)], 2 * 97)
        self.check([(0, 0, 1, 1)], 1)

    def test_the_same_box_twice(self):
        self.check([(0, 0, 4, 3), (0, 0, 4, 3)], 12)
        self.assertEqual(last(put(5, 0, SQUARE), cover([5, 5])), [16])
        self.assertEqual(last(put(5, 0, SQUARE), copy(5, 6), cover([5, 6, 5])), [16])
        self.assertEqual(last(put(5, 0, SQUARE), cover([5] * 100)), [16])

    def test_boxes_that_overlap(self):
        self.check([(0, 0, 4, 4), (2, 2, 6, 6)], 28)
        self.check([(0, 0, 4, 4), (2, 0, 6, 4)], 24)
        self.check([(0, 0, 4, 4), (0, 3, 4, 9)], 36)
        # A cross, and three boxes one over another.
        self.check([(0, 4, 10, 6), (4, 0, 6, 10)], 36)
        self.check([(0, 0, 4, 4), (1, 1, 5, 5), (2, 2, 6, 6)], 16 + 7 + 7)

    def test_boxes_that_touch(self):
        self.check([(0, 0, 4, 4), (4, 0, 8, 4)], 32)
        self.check([(0, 0, 4, 4), (0, 4, 4, 8)], 32)
        self.check([(0, 0, 4, 4), (4, 4, 8, 8)], 32)

    def test_boxes_within_one_another(self):
        self.check([(0, 0, 9, 9), (3, 3, 5, 5)], 81)
        self.check([(0, 0, 9, 9), (0, 0, 9, 5), (0, 0, 3, 9), (2, 2, 9, 9)], 81)

    def test_boxes_apart(self):
        self.check([(0, 0, 4, 4), (6, 0, 7, 4)], 20)
        self.check([(0, 0, 4, 4), (0, 6, 4, 7)], 20)
        self.check([(0, 0, 1, 1), (5, 5, 6, 6), (10, 0, 11, 1), (0, 10, 1, 11)], 4)

    def test_a_hole_is_not_covered(self):
        self.check([(0, 0, 9, 1), (0, 8, 9, 9), (0, 0, 1, 9), (8, 0, 9, 9)], 81 - 49)

    def test_one_above_two_others(self):
        # A short span between, before and behind longer ones.
        self.check([(0, 0, 2, 10), (0, 2, 2, 3), (0, 5, 2, 12)], 24)
        self.check([(0, 0, 2, 3), (0, 1, 2, 2), (0, 5, 2, 6)], 8)

    def test_the_largest_coordinates(self):
        self.check([(-FAR, -FAR, FAR, FAR)], 4 * FAR * FAR)
        self.check([(-FAR, -FAR, FAR, FAR), (0, 0, 1, 1)], 4 * FAR * FAR)
        self.check([(-FAR, -FAR, -FAR + 1, FAR), (FAR - 1, -FAR, FAR, FAR)], 4 * FAR)
        self.check([(-FAR, 0, FAR, 1), (0, -FAR, 1, FAR)], 4 * FAR - 1)

    def test_boxes_told_clockwise_and_from_any_corner(self):
        corners = pairs(box_corners(1, 2, 6, 4))
        for order in (corners, corners[::-1]):
            for k in range(4):
                self.assertEqual(last(put(0, 0, flat(order[k:] + order[:k])), cover([0])), [10])

    def test_boxes_that_are_moved_and_made(self):
        answered = ask(put(0, 0, SQUARE), copy(0, 1), shift(1, 2, 2), cover([0, 1]), turn(1, 3, 0, 0), cover([0, 1]),
                       flip(1, 0), cover([0, 1]), summed(0, 1, 2), cover([2]), put(3, 0, SPOT), hull(4, [0, 3]),
                       cover([4, 0]), clear(4), cover([4, 0]))
        self.assertEqual([answered[k] for k in (3, 5, 7, 9, 12, 14)], [[28], [32], [32], [64], [16], [-2]])

    def test_a_tidied_polygon(self):
        self.assertEqual(ask(put(0, 0, FIVE), cover([0]), tidy(0), cover([0])), [[0], [-3], [4], [16]])
        self.assertEqual(ask(put(0, 3, SQUARE), cover([0]), grow(0, -3), cover([0])), [[0], [-3], [0], [16]])

    def test_all_places(self):
        boxes = [(k, k * k % 17, k + 5, k * k % 17 + 4) for k in range(64)]
        self.check(boxes, cover_by_cells(boxes))

    def test_many_by_chance(self):
        chance = random.Random(41)
        for k in range(250):
            size = chance.choice([3, 6, 20, FAR])
            boxes = []
            for n in range(chance.randint(1, 12)):
                left, low = chance.randint(-size, size - 1), chance.randint(-size, size - 1)
                boxes.append((left, low, chance.randint(left + 1, size), chance.randint(low + 1, size)))
            self.check(boxes, cover_by_cells(boxes))


class Refused(unittest.TestCase):
    def test_shapes_that_are_no_such_box(self):
        wrong = [SPOT, BAR, [0, 0, 4, 0], [0, 0, 4, 0, 4, 4], NOTCH, FIVE, [0, 0, 2, 2, 0, 4, -2, 2],
                 [0, 0, 4, 0, 4, 4, 1, 4], [0, 0, 4, 0, 5, 4, 1, 4], [0, 0, 4, 0, 4, 4, 0, 5], [0, 0, 2, 0, 4, 0, 0, 4],
                 [0, 0, 4, 0, 4, 4, 1, 1], [0, 0, 4, 0, 4, 2, 2, 2, 2, 4, 0, 4]]
        for numbers in wrong:
            start = [put(1, 0, SQUARE), put(2, 0, numbers)]
            for places in ([2], [1, 2], [2, 1], [2, 2]):
                self.assertEqual(refused(start, cover(places)), -3, numbers)

    def test_a_radius_above_0(self):
        for r in (1, FAR):
            start = [put(1, 0, SQUARE), put(2, r, SQUARE)]
            self.assertEqual(refused(start, cover([2])), -3)
            self.assertEqual(refused(start, cover([1, 2])), -3)
            self.assertEqual(last(*start, cover([1])), [16])

    def test_an_empty_place_anywhere_comes_before_a_wrong_kind(self):
        start = [put(1, 0, SQUARE), put(2, 0, SPOT)]
        for places in ([3], [1, 3], [3, 1], [2, 3], [3, 2], [2, 1, 1, 3], [2] * 99 + [3]):
            self.assertEqual(refused(start, cover(places)), -2)

    def test_no_such_place_anywhere_comes_first(self):
        start = [put(1, 0, SQUARE), put(2, 0, SPOT)]
        for place in (-1, 64, FAR, HUGE, -HUGE):
            for places in ([place], [1, place], [place, 1], [2, place], [3, place], [place, 3], [2, 3, 1, place],
                           [3] * 50 + [2] * 49 + [place]):
                self.assertEqual(refused(start, cover(places)), -1)


if __name__ == "__main__":
    unittest.main()
