"""dist: the square of the least distance of two skeletons."""

import unittest

from lines import BAR, FAR, NOTCH, SPOT, SQUARE, ask, dist, dist_by_fractions, flat, last, pairs, put

# Corners of a wide ring that is open at its right side, with a hollow from 2 to 8.
HOOK = [0, 0, 10, 0, 10, 2, 2, 2, 2, 8, 10, 8, 10, 10, 0, 10]


class Dist(unittest.TestCase):
    def check(self, numbers, others, n, d):
        """The answer with either skeleton first, and whatever the radii."""
        for r, s in ((0, 0), (3, FAR)):
            answered = ask(put(1, r, numbers), put(2, s, others), dist(1, 2), dist(2, 1))
            self.assertEqual(answered, [[0], [0], [n, d], [n, d]], (numbers, others))
        self.assertEqual(dist_by_fractions(pairs(numbers), pairs(others)), [n, d])


class SpotAndSpot(Dist):
    def test_apart(self):
        self.check([0, 0], [3, 4], 25, 1)
        self.check([-1, 5], [-1, -5], 100, 1)

    def test_alike(self):
        self.check([3, 4], [3, 4], 0, 1)


class SpotAndBar(Dist):
    def test_nearest_to_an_end(self):
        self.check([-3, -4], [0, 0, 10, 0], 25, 1)
        self.check([13, 4], [0, 0, 10, 0], 25, 1)
        self.check([0, 4], [0, 0, 10, 0], 16, 1)
        self.check([15, 0], [0, 0, 10, 0], 25, 1)

    def test_nearest_between_the_ends(self):
        self.check([5, 3], [0, 0, 10, 0], 9, 1)
        self.check([0, 1], [0, 0, 1, 1], 1, 2)
        self.check([1, 0], [0, 0, 2, 1], 1, 5)
        self.check([3, 0], [0, 0, 3, 6], 36, 5)

    def test_a_fraction_in_least_terms(self):
        # The squared left turn by the bar's squared length: 100 / 50, 36 / 8, 16 / 160.
        self.check([1, 3], [0, 0, 5, 5], 2, 1)
        self.check([3, 0], [0, 0, 2, 2], 9, 2)
        self.check([4, 0], [0, -1, 12, 3], 1, 10)

    def test_on_the_bar(self):
        self.check([0, 0], [0, 0, 4, 2], 0, 1)
        self.check([4, 2], [0, 0, 4, 2], 0, 1)
        self.check([2, 1], [0, 0, 4, 2], 0, 1)
        self.check([6, 3], [0, 0, 4, 2], 5, 1)


class SpotAndPolygon(Dist):
    def test_outside(self):
        self.check([-3, -4], SQUARE, 25, 1)
        self.check([2, -4], SQUARE, 16, 1)
        self.check([7, 2], SQUARE, 9, 1)
        self.check([2, 3], NOTCH, 1, 2)

    def test_on_the_rim(self):
        for spot in ([0, 0], [4, 4], [2, 0], [4, 1], [3, 4], [0, 2]):
            self.check(spot, SQUARE, 0, 1)
        self.check([2, 2], NOTCH, 0, 1)
        self.check([3, 3], NOTCH, 0, 1)

    def test_within(self):
        for spot in ([1, 1], [2, 2], [3, 3], [1, 3]):
            self.check(spot, SQUARE, 0, 1)
        self.check([1, 2], NOTCH, 0, 1)
        self.check([3, 2], NOTCH, 0, 1)
        # As near to a side as a point of whole numbers can be.
        self.check([0, 1], [0, 0, 1, 2, -3, 1], 0, 1)
        self.check([0, 1], [0, 0, 3, 1, -1, 2], 0, 1)

    def test_at_the_height_of_corners(self):
        diamond = [0, -4, 4, 0, 0, 4, -4, 0]
        self.check([0, 0], diamond, 0, 1)
        self.check([-6, 0], diamond, 4, 1)
        self.check([6, 0], diamond, 4, 1)
        self.check([1, 4], diamond, 1, 2)
        self.check([-1, -4], diamond, 1, 2)
        self.check([5, 5], HOOK, 9, 1)
        self.check([5, 2], HOOK, 0, 1)
        self.check([1, 8], HOOK, 0, 1)
        self.check([-1, 2], HOOK, 1, 1)


class BarAndBar(Dist):
    def test_apart(self):
        self.check([0, 0, 4, 0], [0, 3, 4, 3], 9, 1)
        self.check([0, 0, 4, 0], [7, 4, 9, 9], 25, 1)
        self.check([0, 0, 4, 0], [2, 1, 2, 9], 1, 1)
        self.check([0, 0, 4, 4], [3, 1, 9, -5], 2, 1)
        self.check([0, 0, 4, 0], [6, 0, 9, 0], 4, 1)
        self.check([0, 0, 2, 1], [4, 2, 6, 3], 5, 1)
        self.check([0, 0, 1, 3], [1, 0, 4, 1], 9, 10)

    def test_touching_in_a_point(self):
        self.check([0, 0, 4, 0], [4, 0, 9, 9], 0, 1)
        self.check([0, 0, 4, 0], [2, 0, 2, 9], 0, 1)
        self.check([0, 0, 4, 0], [4, 0, 9, 0], 0, 1)

    def test_crossing(self):
        self.check([0, 0, 4, 4], [0, 4, 4, 0], 0, 1)
        self.check([0, 0, 3, 1], [1, 1, 2, 0], 0, 1)

    def test_on_one_another(self):
        self.check([0, 0, 4, 2], [2, 1, 6, 3], 0, 1)
        self.check([0, 0, 6, 3], [2, 1, 4, 2], 0, 1)
        self.check([0, 0, 4, 2], [4, 2, 0, 0], 0, 1)

    def test_boxes_that_overlap(self):
        self.check([0, 0, 10, 10], [5, 4, 10, 0], 1, 2)
        self.check([0, 0, 10, 10], [1, 0, 10, 9], 1, 2)


class BarAndPolygon(Dist):
    def test_apart(self):
        self.check([-3, 0, -3, 4], SQUARE, 9, 1)
        self.check([6, 0, 0, -6], SQUARE, 2, 1)
        self.check([5, 5, 20, 5], HOOK, 9, 1)
        self.check([2, 3, 2, 9], NOTCH, 1, 2)

    def test_touching_in_a_point(self):
        self.check([4, 4, 9, 9], SQUARE, 0, 1)
        self.check([2, 8, 6, 0], SQUARE, 0, 1)
        self.check([2, 2, 2, 9], NOTCH, 0, 1)
        self.check([4, 2, 9, 2], SQUARE, 0, 1)

    def test_crossing(self):
        self.check([-5, 2, 9, 2], SQUARE, 0, 1)
        self.check([2, 2, 9, 2], SQUARE, 0, 1)
        self.check([5, 5, 5, 20], HOOK, 0, 1)

    def test_within(self):
        self.check([1, 1, 3, 2], SQUARE, 0, 1)
        self.check([1, 1, 3, 2], [0, 0, 9, 0, 0, 9], 0, 1)
        self.check([1, 1, 1, 9], HOOK, 0, 1)

    def test_along_a_side(self):
        self.check([1, 0, 3, 0], SQUARE, 0, 1)
        self.check([-9, 0, 9, 0], SQUARE, 0, 1)


class PolygonAndPolygon(Dist):
    def test_apart(self):
        self.check(SQUARE, [6, 0, 9, 0, 9, 3], 4, 1)
        self.check(SQUARE, [7, 8, 9, 8, 9, 9], 25, 1)
        self.check(SQUARE, [5, 4, 7, 8, 3, 7], 9, 13)
        self.check([0, 0, 5, 0, 0, 5], [5, 1, 6, 6, 1, 5], 1, 2)

    def test_in_the_hollow_of_another(self):
        self.check(HOOK, [4, 4, 6, 4, 6, 5], 4, 1)
        self.check(HOOK, [5, 5, 20, 4, 20, 6], 800, 113)

    def test_touching_in_a_point(self):
        self.check(SQUARE, [4, 4, 8, 4, 8, 8, 4, 8], 0, 1)
        self.check(SQUARE, [4, 2, 8, 0, 8, 4], 0, 1)
        self.check(NOTCH, [2, 2, 3, 9, 1, 9], 0, 1)

    def test_touching_along_a_side(self):
        self.check(SQUARE, [4, 1, 8, 1, 8, 3, 4, 3], 0, 1)

    def test_crossing(self):
        self.check(SQUARE, [2, 2, 8, 2, 8, 8, 2, 8], 0, 1)
        self.check([-5, 1, 9, 1, 9, 2, -5, 2], [1, -5, 2, -5, 2, 9, 1, 9], 0, 1)

    def test_one_within_the_other(self):
        self.check([-9, -9, 20, -9, 20, 20, -9, 20], SQUARE, 0, 1)
        self.check([-9, -9, 20, -9, 20, 20, -9, 20], HOOK, 0, 1)
        self.check(HOOK, [4, 1, 6, 0, 7, 1], 0, 1)
        self.check(SQUARE, [1, 1, 2, 1, 1, 2], 0, 1)
        self.check([0, 0, 9, 0, 0, 9], [1, 1, 2, 1, 1, 2], 0, 1)

    def test_alike(self):
        self.check(SQUARE, SQUARE, 0, 1)
        self.check(HOOK, HOOK, 0, 1)

    def test_thirty_two_corners(self):
        comb = [(k, 0) for k in range(16)] + [(15 - k, 1 + (15 - k) % 2) for k in range(16)]
        above = [(x, 9 - y) for x, y in comb]
        beside = [(x + 1, 9 - y) for x, y in comb]
        self.check(flat(comb), flat(above), 25, 1)
        self.check(flat(comb), flat(beside), 26, 1)
        self.check(flat(comb), flat([(x, y - 5) for x, y in beside]), 1, 2)


class SamePlace(unittest.TestCase):
    def test_the_same_place_twice(self):
        for numbers in (SPOT, BAR, SQUARE, NOTCH, HOOK):
            self.assertEqual(last(put(9, 1, numbers), dist(9, 9)), [0, 1])


class LargestCoordinates(Dist):
    def test_corner_to_corner(self):
        self.check([-FAR, -FAR], [FAR, FAR], 8 * FAR * FAR, 1)
        self.check([-FAR, -FAR, -FAR, FAR], [FAR, -FAR, FAR, FAR], 4 * FAR * FAR, 1)

    def test_the_least_distance_to_a_long_bar(self):
        # The bar's squared length is odd, and 1 is the least that a left turn can be.
        length = (2 * FAR) ** 2 + (2 * FAR - 1) ** 2
        self.check([-FAR, -FAR, FAR, FAR - 1], [0, 0], FAR * FAR, length)
        self.check([-FAR, -FAR, FAR, FAR - 1], [-FAR + 1, -FAR + 1], 1, length)
        self.check([-FAR, -FAR, FAR, FAR - 1], [FAR, FAR], 1, 1)

    def test_numbers_beyond_two_to_the_127(self):
        bar = [-FAR, -FAR, FAR, FAR - 1]
        across = 2 * FAR * (2 * FAR)
        length = (2 * FAR) ** 2 + (2 * FAR - 1) ** 2
        wanted = dist_by_fractions(pairs(bar), [(-FAR + 1, FAR)])
        self.assertGreater(wanted[0] * wanted[1], 2 ** 127)
        self.check(bar, [-FAR + 1, FAR], wanted[0], wanted[1])
        self.assertEqual(wanted, [(across - 2 * FAR + 1) ** 2, length])

    def test_long_bars_that_cross_or_just_miss(self):
        self.check([-FAR, -FAR, FAR, FAR], [-FAR, FAR, FAR, -FAR], 0, 1)
        self.check([-FAR, -FAR, FAR, FAR], [0, 1, FAR - 1, FAR], 1, 2)
        self.check([-FAR, -FAR, FAR, FAR - 1], [-FAR + 1, -FAR + 1, 0, FAR], 1, (2 * FAR) ** 2 + (2 * FAR - 1) ** 2)

    def test_large_polygons(self):
        self.check([-FAR, -FAR, FAR, -FAR, FAR, FAR], [-FAR, -FAR + 1, FAR - 1, FAR, -FAR, FAR], 1, 2)
        self.check([-FAR, -FAR, FAR, -FAR, FAR, FAR, -FAR, FAR], [0, 0, 1, 0, 0, 1], 0, 1)


if __name__ == "__main__":
    unittest.main()
