"""far, touch and apart: how far shapes are from one another, at most and at least."""

import random
import unittest

from lines import (BAR, FAR, HUGE, NOTCH, SPOT, SQUARE, apart, ask, close, dist, dist_by_fractions, far, flat, last,
                   pairs, put, refused, touch)

RING = [0, 0, 10, 0, 10, 2, 2, 2, 2, 8, 10, 8, 10, 10, 0, 10]
COMB = [(k, 0) for k in range(16)] + [(15 - k, 1 + (15 - k) % 2) for k in range(16)]
# Skeletons and the square of their distance, told as n and d.
DISTANCES = [([0, 0], [3, 4], 25, 1), ([0, 0], [5, 0, 5, 9], 25, 1), ([0, 0, 0, 9], [13, 9, 20, 9], 169, 1),
             ([2, 9], SQUARE, 25, 1), ([7, 8, 9, 8], SQUARE, 25, 1), (SQUARE, [7, 8, 9, 8, 9, 9], 25, 1),
             ([0, 1], [0, 0, 1, 1], 1, 2), ([3, 0], [0, 0, 3, 6], 36, 5), ([0, 0, 1, 3], [1, 0, 4, 1], 9, 10),
             ([0, 0, 5, 0, 0, 5], [5, 1, 6, 6, 1, 5], 1, 2), (RING, [5, 5, 20, 4, 20, 6], 800, 113),
             ([-FAR, -FAR, FAR, FAR - 1], [0, 0], FAR * FAR, (2 * FAR) ** 2 + (2 * FAR - 1) ** 2)]
# Skeletons with a point in common.
TOGETHER = [(SPOT, SPOT), (SPOT, SQUARE), (BAR, [2, 1]), (BAR, [0, 2, 4, 0]), (SQUARE, [1, 1, 3, 2]), (SQUARE, NOTCH),
            (SQUARE, [4, 4, 9, 9]), (RING, [-9, -9, 20, -9, 20, 20, -9, 20]), (SQUARE, [1, 1, 2, 1, 1, 2])]
BOUND = 10 ** 9


class Far(unittest.TestCase):
    def check(self, numbers, others, square):
        """The answer with either skeleton first, and whatever the radii."""
        for r, s in ((0, 0), (3, FAR)):
            answered = ask(put(1, r, numbers), put(2, s, others), far(1, 2), far(2, 1))
            self.assertEqual(answered[2:], [[square], [square]], (numbers, others))

    def test_each_kind_with_each(self):
        self.check([0, 0], [3, 4], 25)
        self.check([3, 4], [3, 4], 0)
        self.check([0, 0], [1, 1, 3, 4], 25)
        self.check([2, 1], BAR, 5)
        self.check([2, 2], SQUARE, 8)
        self.check([-1, 2], SQUARE, 29)
        self.check([0, 0, 2, 0], [5, 0, 7, 0], 49)
        self.check([0, 0, 4, 4], [0, 4, 4, 0], 16)
        self.check(BAR, SQUARE, 32)
        self.check([5, 5, 20, 5], RING, 20 * 20 + 5 * 5)
        self.check(SQUARE, [6, 0, 9, 0, 9, 3], 81 + 16)
        self.check(SQUARE, NOTCH, 32)

    def test_not_the_first_points(self):
        self.check([0, 0, 1, 0, 9, 9, 0, 1], [0, 0], 162)
        self.check([5, 0, 6, 1, 5, 2, -9, 1], [0, 0, 0, 2, 40, 1], 49 * 49)

    def test_of_a_place_with_itself(self):
        for numbers, square in ((SPOT, 0), (BAR, 20), (SQUARE, 32), (NOTCH, 32), (RING, 200), ([0, 0, 9, 1, 1, 2], 82)):
            self.assertEqual(last(put(7, 5, numbers), far(7, 7)), [square])

    def test_the_largest_coordinates(self):
        self.check([-FAR, -FAR], [FAR, FAR], 8 * FAR * FAR)
        self.check([-FAR, -FAR, -FAR, FAR, 0, 0], [FAR, FAR - 1, FAR, FAR, 0, 1], 8 * FAR * FAR)
        corners = [-FAR, -FAR, FAR, -FAR, FAR, FAR, -FAR, FAR]
        self.check(corners, corners, 8 * FAR * FAR)

    def test_thirty_two_corners(self):
        self.check(flat(COMB), flat([(x, 9 - y) for x, y in COMB]), 15 * 15 + 81)


class Pairs(unittest.TestCase):
    def both_ways(self, numbers, r, others, s, call, expected):
        answered = ask(put(1, r, numbers), put(2, s, others), call(1, 2), call(2, 1))
        self.assertEqual(answered, [[0], [0], [expected], [expected]], (numbers, r, others, s))


def root(n, d):
    """The greatest whole number whose square is n / d or less."""
    low, high = 0, 4 * FAR
    while low < high:
        middle = (low + high + 1) // 2
        if middle * middle * d <= n:
            low = middle
        else:
            high = middle - 1
    return low


class Touch(Pairs):
    def test_radii_that_just_reach_and_one_less_and_one_more(self):
        for numbers, others, n, d in DISTANCES:
            self.assertEqual(last(put(0, 0, numbers), put(1, 0, others), dist(0, 1)), [n, d])
            whole = root(n, d)
            reach = whole if whole * whole * d == n else whole + 1
            for r in sorted({0, reach // 2, reach}):
                self.both_ways(numbers, r, others, reach - r, touch, 1)
                self.both_ways(numbers, r, others, reach - r + 1, touch, 1)
                if reach - r > 0:
                    self.both_ways(numbers, r, others, reach - r - 1, touch, 0)

    def test_one_radius_alone(self):
        self.both_ways([0, 0], 5, [3, 4], 0, touch, 1)
        self.both_ways([0, 0], 4, [3, 4], 0, touch, 0)
        self.both_ways([0, 0], 3, [3, 4], 2, touch, 1)
        self.both_ways([0, 0], 2, [3, 4], 2, touch, 0)

    def test_without_radii(self):
        self.both_ways([0, 0], 0, [0, 1], 0, touch, 0)
        self.both_ways([0, 0, 4, 0], 0, [4, 0, 9, 9], 0, touch, 1)
        self.both_ways([0, 0], 0, [-FAR, -FAR, FAR, FAR - 1], 0, touch, 0)

    def test_a_point_in_common(self):
        for numbers, others in TOGETHER:
            for r, s in ((0, 0), (0, 1), (5, 0), (FAR, FAR)):
                self.both_ways(numbers, r, others, s, touch, 1)

    def test_the_same_place_twice(self):
        for numbers in (SPOT, BAR, SQUARE, NOTCH, RING):
            for r in (0, 3, FAR):
                self.assertEqual(last(put(7, r, numbers), touch(7, 7)), [1])

    def test_the_largest_numbers(self):
        # The squared distance of the corners is 8 FAR^2, that of the radii 4 FAR^2.
        self.both_ways([-FAR, -FAR], FAR, [FAR, FAR], FAR, touch, 0)
        self.both_ways([-FAR, 0], FAR, [FAR, 0], FAR, touch, 1)
        self.both_ways([-FAR, 0], FAR, [FAR, 0], FAR - 1, touch, 0)
        self.both_ways([-FAR, 0], FAR, [FAR, 1], FAR, touch, 0)


class Apart(Pairs):
    def check(self, numbers, r, others, s, c, expected):
        self.both_ways(numbers, r, others, s, lambda i, j: apart(i, j, c), expected)
        # close finds the pair where apart answers 0.
        pair = [1, 1, 2] if expected == 0 else [0]
        self.assertEqual(last(put(1, r, numbers), put(2, s, others), close(c)), pair)

    def test_just_the_distance_and_one_less_and_one_more(self):
        for numbers, others, n, d in DISTANCES:
            whole = root(n, d)
            for c in (1, 2, whole - 1, whole, whole + 1):
                for r, s in ((0, 0), (1, 0), (0, 1), (1, 1), (whole - c, 0)):
                    if c > 0 and r >= 0:
                        expected = int((r + s + c) ** 2 * d <= n)
                        self.check(numbers, r, others, s, c, expected)

    def test_c_itself_is_enough(self):
        for r, s, c, expected in ((0, 0, 5, 1), (0, 0, 6, 0), (0, 0, 4, 1), (1, 0, 4, 1), (1, 0, 5, 0), (2, 2, 1, 1),
                                  (2, 2, 2, 0), (2, 3, 1, 0), (9, 9, 1, 0), (0, 0, BOUND, 0)):
            self.check([0, 0], r, [3, 4], s, c, expected)
            self.check(SQUARE, r, [7, 8, 9, 8, 9, 9], s, c, expected)

    def test_a_fraction(self):
        # 36 / 5 is between 4 and 9, 1 / 2 is below 1.
        self.check([3, 0], 0, [0, 0, 3, 6], 0, 2, 1)
        self.check([3, 0], 0, [0, 0, 3, 6], 0, 3, 0)
        self.check([3, 0], 1, [0, 0, 3, 6], 0, 1, 1)
        self.check([0, 1], 0, [0, 0, 1, 1], 0, 1, 0)
        # 800 / 113 is between 4 and 9 too.
        self.check(RING, 0, [5, 5, 20, 4, 20, 6], 0, 2, 1)
        self.check(RING, 0, [5, 5, 20, 4, 20, 6], 0, 3, 0)
        self.check(RING, 1, [5, 5, 20, 4, 20, 6], 1, 1, 0)

    def test_a_point_in_common(self):
        for numbers, others in TOGETHER:
            for r, s, c in ((0, 0, 1), (0, 5, 2), (FAR, FAR, BOUND)):
                self.check(numbers, r, others, s, c, 0)

    def test_the_same_place_twice(self):
        for numbers in (SPOT, BAR, SQUARE, NOTCH):
            self.assertEqual(last(put(7, 0, numbers), apart(7, 7, 1)), [0])

    def test_the_largest_numbers(self):
        self.check([-FAR, 0], 0, [FAR, 0], FAR, BOUND, 1)
        self.check([-FAR, 0], 1, [FAR, 0], FAR, BOUND, 0)
        self.check([-FAR, 0], 1, [FAR, 0], FAR, BOUND - 1, 1)
        # 3 FAR squared is more than 8 FAR^2.
        self.check([-FAR, -FAR], FAR, [FAR, FAR], FAR, BOUND, 0)
        self.check([-FAR, -FAR], FAR, [FAR, FAR], FAR, 828427124, 1)
        self.check([-FAR, -FAR], FAR, [FAR, FAR], FAR, 828427125, 0)

    def test_near_boxes_of_far_skeletons(self):
        # The boxes overlap, the skeletons don't.
        self.check([0, 0, 10, 10], 0, [6, 0, 10, 4], 0, 4, 1)
        self.check([0, 0, 10, 10], 0, [6, 0, 10, 4], 0, 5, 0)
        self.check(RING, 0, [5, 5, 6, 5], 0, 3, 1)
        self.check(RING, 0, [5, 5, 6, 5], 0, 4, 0)


class Refused(unittest.TestCase):
    def test_the_distance(self):
        start = [put(1, 0, SPOT), put(2, 3, SQUARE)]
        for c in (0, -1, BOUND + 1, -BOUND, HUGE, -HUGE):
            self.assertEqual(refused(start, apart(1, 2, c)), -8)
            self.assertEqual(refused(start, apart(1, 1, c)), -8)
        for c in (1, BOUND):
            self.assertEqual(last(*start, apart(1, 2, c)), [0])

    def test_the_one_nearest_to_0(self):
        start = [put(1, 0, SPOT), put(2, 3, SQUARE)]
        for c in (1, 0, -1, BOUND + 1, HUGE, -HUGE):
            for i, j in ((1, 64), (-1, 1), (3, 64), (-1, 3), (HUGE, -HUGE)):
                self.assertEqual(refused(start, apart(i, j, c)), -1)
            for i, j in ((1, 3), (3, 1), (3, 3)):
                self.assertEqual(refused(start, apart(i, j, c)), -2)
        for call in (far, touch):
            self.assertEqual(refused(start, call(3, 64)), -1)
            self.assertEqual(refused(start, call(-1, 3)), -1)
            self.assertEqual(refused(start, call(1, 3)), -2)
            self.assertEqual(refused(start, call(3, 1)), -2)


class ByChance(unittest.TestCase):
    def test_distances_about_the_very_one(self):
        chance = random.Random(8)
        seen = {(name, answer): 0 for name in ("touch", "apart") for answer in (0, 1)}
        while min(seen.values()) < 200:
            size = chance.choice([4, 12, 1000, FAR // 3])
            one, other = [[chance.randint(-size, size) for k in range(chance.choice([2, 4, 6]))] for n in range(2)]
            start = ask(put(0, 0, one), put(1, 0, other))
            if start != [[0], [0]]:
                continue
            n, d = dist_by_fractions(pairs(one), pairs(other))
            reach = max(0, root(n, d) + chance.randint(-1, 2))
            r = min(chance.randint(0, reach), FAR)
            s = min(reach - r, FAR)
            c = chance.randint(1, 3)
            answered = ask(put(0, r, one), put(1, s, other), touch(0, 1), apart(0, 1, c), apart(1, 0, c))[2:]
            expected = [int(n <= (r + s) ** 2 * d), int(n >= (r + s + c) ** 2 * d)]
            self.assertEqual(answered, [[expected[0]], [expected[1]], [expected[1]]], (one, r, other, s, c))
            seen["touch", expected[0]] += 1
            seen["apart", expected[1]] += 1


if __name__ == "__main__":
    unittest.main()
