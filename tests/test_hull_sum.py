"""hull and sum: shapes that are made of shapes."""

import random
import unittest

from lines import (BAR, FAR, HUGE, NOTCH, SPOT, SQUARE, area, ask, box, convex, copy, dist, far, filled, flat, flip,
                   grow, hull, hull_by_wrapping, inside, last, pairs, point, put, refused, shape, shift, summed, sums,
                   tidy, touch, triangles, turn)

# x of corners whose y is the square of it: no three on one line.
BOWL = [(x, x * x) for x in range(-16, 17)]
FLAT_SIDES = [0, 0, 2, 0, 4, 0, 4, 3, 4, 4, 2, 4, 0, 4, 0, 1]


def spots(points, first=0, r=0):
    """Calls that put a spot at each point, one place behind another."""
    return [put(first + k, r, list(p)) for k, p in enumerate(points)]


def bowl(count):
    """The corners of a convex polygon that has just so many."""
    return BOWL[:count]


class Hull(unittest.TestCase):
    def check(self, start, places, expected, to=63):
        """hull's answer, what the place holds then, and that the radius is 0."""
        answered = ask(*start, hull(to, places), shape(to))
        self.assertEqual(answered[-2:], [[len(expected)], [0] + flat(expected)], places)

    def of_points(self, points, expected):
        """The hull of spots, in several orders."""
        for order in (points, points[::-1], points[1:] + points[:1]):
            self.check(spots(order), list(range(len(order))), expected)
        self.assertEqual(hull_by_wrapping(points), expected)

    def test_all_alike(self):
        self.of_points([(3, 4)], [(3, 4)])
        self.of_points([(3, 4)] * 5, [(3, 4)])
        self.of_points([(-FAR, FAR)] * 2, [(-FAR, FAR)])

    def test_all_on_one_line(self):
        self.of_points([(2, 5), (2, 1), (2, 9), (2, 5)], [(2, 1), (2, 9)])
        self.of_points([(5, 2), (1, 2), (9, 2)], [(1, 2), (9, 2)])
        self.of_points([(2, 1), (0, 0), (6, 3), (4, 2)], [(0, 0), (6, 3)])
        self.of_points([(0, 6), (2, 2), (3, 0), (1, 4)], [(3, 0), (0, 6)])
        self.of_points([(0, 0), (1, 1), (0, 0)], [(0, 0), (1, 1)])
        self.of_points([(-FAR, -FAR), (FAR, FAR), (0, 0)], [(-FAR, -FAR), (FAR, FAR)])

    def test_polygons(self):
        self.of_points([(0, 0), (4, 0), (0, 4)], [(0, 0), (4, 0), (0, 4)])
        self.of_points([(4, 4), (0, 0), (4, 0), (0, 4)], pairs(SQUARE))
        self.of_points([(0, -3), (3, 0), (0, 3), (-3, 0)], [(0, -3), (3, 0), (0, 3), (-3, 0)])
        self.of_points([(1, 1), (4, 4), (0, 0), (2, 3), (4, 0), (0, 4)], pairs(SQUARE))

    def test_the_lowest_corner_that_is_leftmost_comes_first(self):
        self.of_points([(5, 0), (2, 0), (9, 7), (0, 3)], [(2, 0), (5, 0), (9, 7), (0, 3)])
        self.of_points([(0, 5), (9, 5), (4, -1)], [(4, -1), (9, 5), (0, 5)])

    def test_flat_ones_are_left_out(self):
        self.of_points([(0, 0), (2, 0), (4, 0), (4, 2), (4, 4), (2, 4), (0, 4), (0, 2), (0, 1)], pairs(SQUARE))
        self.of_points([(0, 0), (2, 1), (4, 2), (6, 3), (0, 5), (0, 1)], [(0, 0), (6, 3), (0, 5)])
        self.of_points([(0, 0), (3, 3), (4, 4), (1, 1), (2, 5)], [(0, 0), (4, 4), (2, 5)])
        self.check([put(0, 0, FLAT_SIDES)], [0], pairs(SQUARE))

    def test_the_slightest_turn_is_kept(self):
        self.of_points([(-FAR, 0), (0, -1), (FAR, 0), (0, 1)], [(0, -1), (FAR, 0), (0, 1), (-FAR, 0)])
        self.of_points([(-FAR, -FAR), (FAR, FAR - 1), (FAR, FAR)], [(-FAR, -FAR), (FAR, FAR - 1), (FAR, FAR)])

    def test_of_each_kind_of_skeleton(self):
        start = [put(0, 0, SPOT), put(1, 0, BAR), put(2, 0, NOTCH), put(3, 0, [9, 1])]
        self.check(start, [0], [(1, 2)])
        self.check(start, [1], [(0, 0), (4, 2)])
        self.check(start, [2], pairs(SQUARE))
        self.check(start, [0, 1], [(0, 0), (4, 2), (1, 2)])
        self.check(start, [0, 1, 2], pairs(SQUARE))
        self.check(start, [3, 1], [(0, 0), (9, 1), (4, 2)])
        self.check(start, [3, 2], [(0, 0), (4, 0), (9, 1), (4, 4), (0, 4)])

    def test_radii_are_left_out(self):
        self.check(spots([(0, 0), (4, 0), (0, 4)], r=FAR), [0, 1, 2], [(0, 0), (4, 0), (0, 4)])
        self.check([put(63, 7, SPOT)], [63], [(1, 2)])

    def test_a_place_told_more_than_once(self):
        start = [put(0, 1, SPOT), put(1, 2, BAR)]
        self.check(start, [1, 0, 1, 0, 0, 1], [(0, 0), (4, 2), (1, 2)])
        self.check(start, [0] * 100, [(1, 2)])
        self.check([put(2, 0, flat(bowl(32)))], [2] * 100, hull_by_wrapping(bowl(32)))

    def test_to_among_the_places(self):
        start = [put(0, 1, SPOT), put(1, 2, BAR)]
        self.check(start, [0, 1], [(0, 0), (4, 2), (1, 2)], to=0)
        self.check(start, [0, 1], [(0, 0), (4, 2), (1, 2)], to=1)
        self.check(start, [0, 0], [(1, 2)], to=0)
        self.assertEqual(ask(*start, hull(1, [0, 1]), shape(0))[-1], [1] + SPOT)

    def test_what_was_there_is_gone(self):
        self.check([put(0, 1, SPOT), put(9, 8, NOTCH)], [0], [(1, 2)], to=9)

    def test_just_32_and_33(self):
        self.assertEqual(hull_by_wrapping(bowl(33))[0], (0, 0))
        self.check(spots(bowl(32)), list(range(32)), hull_by_wrapping(bowl(32)))
        self.check(spots(bowl(32) + [(0, 5), (1, 7)]), list(range(34)), hull_by_wrapping(bowl(32)))
        start = spots(bowl(33)) + [put(63, 4, NOTCH)]
        self.assertEqual(refused(start, hull(63, list(range(33)))), -5)
        self.assertEqual(refused(start, hull(40, list(range(33)))), -5)
        self.assertEqual(refused([put(0, 0, flat(bowl(32))), put(1, 0, list(BOWL[32]))], hull(0, [0, 1])), -5)
        self.assertEqual(last(put(0, 0, flat(bowl(32))), hull(0, [0, 0])), [32])

    def test_all_places(self):
        points = [(7 * k % 64, 11 * k * k % 64) for k in range(64)]
        self.check(spots(points), list(range(64)), hull_by_wrapping(points))

    def test_an_empty_list(self):
        start = [put(1, 0, SPOT)]
        for to in (0, 1, 63):
            self.assertEqual(refused(start, hull(to, [])), -5)
        for to in (-1, 64, HUGE, -HUGE):
            self.assertEqual(refused(start, hull(to, [])), -1)

    def test_places(self):
        start = [put(1, 0, SPOT), put(2, 5, BAR)]
        for place in (-1, 64, FAR, HUGE, -HUGE):
            self.assertEqual(refused(start, hull(place, [1])), -1)
            self.assertEqual(refused(start, hull(1, [place])), -1)
            self.assertEqual(refused(start, hull(1, [1, 2, place])), -1)
            # Behind an empty one, and before it.
            self.assertEqual(refused(start, hull(1, [3, place])), -1)
            self.assertEqual(refused(start, hull(1, [place, 3])), -1)
            self.assertEqual(refused(start, hull(place, [3])), -1)
            self.assertEqual(refused(start, hull(1, [1] * 99 + [place])), -1)
        self.assertEqual(refused(start, hull(1, [3])), -2)
        self.assertEqual(refused(start, hull(3, [3])), -2)
        self.assertEqual(refused(start, hull(1, [1, 2, 3])), -2)
        self.assertEqual(refused(start, hull(1, [1] * 99 + [3])), -2)
        self.assertEqual(refused(spots(bowl(33)), hull(1, list(range(34)))), -2)

    def test_an_empty_place_may_be_written_to(self):
        self.assertEqual(ask(put(1, 0, SPOT), hull(5, [1]), shape(5))[1:], [[1], [0] + SPOT])


class Sum(unittest.TestCase):
    def check(self, r, numbers, s, others, expected):
        """sum's answer and what the place holds then, with either shape first."""
        for i, j in ((1, 2), (2, 1)):
            answered = ask(put(1, r, numbers), put(2, s, others), summed(i, j, 3), shape(3), shape(1))
            self.assertEqual(answered[2:4], [[len(expected) // 2], [r + s] + expected], (numbers, others))
            self.assertEqual(answered[4][0], r)
        self.assertEqual(flat(hull_by_wrapping(sums(pairs(numbers), pairs(others)))), expected)

    def test_each_kind_with_each(self):
        self.check(1, [1, 2], 2, [10, -20], [11, -18])
        self.check(1, [1, 2], 2, BAR, [1, 2, 5, 4])
        self.check(0, [1, 2], 2, SQUARE, [1, 2, 5, 2, 5, 6, 1, 6])
        self.check(0, [0, 0, 4, 2], 0, [0, 0, -1, 3], [0, 0, 4, 2, 3, 5, -1, 3])
        self.check(5, [0, 0, 4, 2], 0, SQUARE, [0, 0, 4, 0, 8, 2, 8, 6, 4, 6, 0, 4])
        self.check(5, SQUARE, 7, SQUARE, [0, 0, 8, 0, 8, 8, 0, 8])
        self.check(0, SQUARE, 0, [0, 0, 2, 2, 0, 4, -2, 2], [0, 0, 4, 0, 6, 2, 6, 6, 4, 8, 0, 8, -2, 6, -2, 2])

    def test_bars_on_one_line(self):
        self.check(0, [0, 0, 4, 2], 0, [1, 1, 3, 2], [1, 1, 7, 4])
        self.check(0, [0, 0, 4, 0], 0, [9, 3, 1, 3], [1, 3, 13, 3])
        self.check(0, [0, 0, 0, 4], 0, [3, 5, 3, 1], [3, 1, 3, 9])
        self.check(0, [4, 0, 0, 4], 0, [0, 0, -1, 1], [4, 0, -1, 5])

    def test_flat_corners_are_left_out(self):
        self.check(0, FLAT_SIDES, 0, [1, 1], [1, 1, 5, 1, 5, 5, 1, 5])
        self.check(0, FLAT_SIDES, 0, FLAT_SIDES, [0, 0, 8, 0, 8, 8, 0, 8])
        self.check(0, FLAT_SIDES, 0, [0, 0, 3, 0], [0, 0, 7, 0, 7, 4, 0, 4])
        self.check(0, [0, 0, 4, 0, 0, 4], 0, [0, 0, 2, -2], [2, -2, 6, -2, 0, 4, 0, 0])

    def test_the_same_place_and_to_among_them(self):
        for i, j, to in ((1, 1, 1), (1, 1, 9), (1, 2, 1), (1, 2, 2), (2, 1, 2)):
            start = [put(1, 2, SQUARE), put(2, 3, BAR)]
            held = {1: (2, SQUARE), 2: (3, BAR)}
            expected = flat(hull_by_wrapping(sums(pairs(held[i][1]), pairs(held[j][1]))))
            answered = ask(*start, summed(i, j, to), shape(to))[2:]
            self.assertEqual(answered, [[len(expected) // 2], [held[i][0] + held[j][0]] + expected])
            other = 1 if to != 1 else 2
            self.assertEqual(last(*start, summed(i, j, to), shape(other)), [held[other][0]] + held[other][1])

    def test_radii(self):
        self.check(FAR, SPOT, 0, BAR, [1, 2, 5, 4])
        self.check(FAR - 1, SPOT, 1, SPOT, [2, 4])
        start = [put(1, FAR, SPOT), put(2, 1, BAR), put(3, FAR, SQUARE)]
        for i, j in ((1, 2), (2, 1), (1, 1), (3, 1), (3, 2)):
            for to in (1, 2, 9):
                self.assertEqual(refused(start, summed(i, j, to)), -4)

    def test_shapes_that_are_not_convex(self):
        start = [put(1, 0, NOTCH), put(2, 0, SPOT), put(3, FAR, NOTCH), put(4, 1, SQUARE), put(5, 0, FLAT_SIDES)]
        for i, j in ((1, 2), (2, 1), (1, 1), (1, 4), (4, 1), (3, 2), (3, 4), (5, 1)):
            self.assertEqual(refused(start, summed(i, j, 9)), -3)
        self.assertEqual(last(*start, summed(5, 4, 9)), [4])

    def test_just_32_points_and_33(self):
        # A bar brings two more points, one more where a side goes along it, as that from (1, 1) to (2, 4) along (1, 3).
        turned = [flat([(-y, x) for x, y in bowl(count)]) for count in range(18)]
        for count, others, points_of_sum in ((31, [5, 7], 31), (32, [5, 7], 32), (29, [0, 0, 1, 0], 31),
                                             (30, [0, 0, 1, 0], 32), (31, [0, 0, 1, 0], 33), (30, [0, 0, 1, 3], 31),
                                             (31, [0, 0, 1, 3], 32), (32, [0, 0, 1, 3], 33), (32, [0, 0, 1, 2], 34),
                                             (15, turned[17], 32), (16, turned[16], 32), (16, turned[17], 33)):
            numbers = flat(bowl(count))
            points = hull_by_wrapping(sums(pairs(numbers), pairs(others)))
            self.assertEqual(len(points), points_of_sum, (count, others))
            if len(points) < 33:
                self.check(0, numbers, 0, others, flat(points))
            else:
                self.assertEqual(refused([put(1, 0, numbers), put(2, 0, others)], summed(1, 2, 1)), -5)

    def test_points_just_in_range_and_one_out_of_it(self):
        self.check(0, [FAR - 1, 1 - FAR], 0, [1, -1], [FAR, -FAR])
        self.check(0, [FAR, FAR], 0, [-FAR, -FAR, -FAR, 0], [0, 0, 0, FAR])
        self.check(0, [FAR - 4, -FAR], 0, SQUARE, [FAR - 4, -FAR, FAR, -FAR, FAR, 4 - FAR, FAR - 4, 4 - FAR])
        for numbers, others in (([FAR, 0], [1, 0]), ([-FAR, 0], [-1, 0]), ([0, FAR], [0, 1]), ([0, -FAR], [0, -1]),
                                ([FAR - 3, 0], SQUARE), ([0, FAR - 3], SQUARE), ([FAR - 3, 0], BAR),
                                ([-FAR, -FAR], [-FAR, -FAR]), ([FAR, FAR, FAR, 0], [0, 0, FAR, 0])):
            start = [put(1, 0, numbers), put(2, 0, others)]
            self.assertEqual(refused(start, summed(1, 2, 3)), -6)
            self.assertEqual(refused(start, summed(2, 1, 1)), -6)

    def test_no_such_place_comes_first(self):
        start = [put(1, FAR, NOTCH), put(2, FAR, [FAR, FAR])]
        for place in (-1, 64, HUGE, -HUGE):
            for i, j, to in ((place, 1, 1), (1, place, 1), (1, 1, place), (9, 9, place), (place, 9, 9), (9, place, 1),
                             (2, 2, place), (place, place, place)):
                self.assertEqual(refused(start, summed(i, j, to)), -1)

    def test_an_empty_place_comes_next(self):
        start = [put(1, FAR, NOTCH), put(2, FAR, [FAR, FAR])]
        for i, j in ((9, 1), (1, 9), (9, 9), (2, 9), (9, 2)):
            for to in (1, 9, 63):
                self.assertEqual(refused(start, summed(i, j, to)), -2)

    def test_the_one_nearest_to_0(self):
        wide = flat([(x * 1000, FAR - 300000 + y * 1000) for x, y in bowl(32)])
        start = [put(1, FAR, NOTCH), put(2, FAR, [FAR, FAR]), put(3, 0, wide), put(4, 1, [0, FAR, 1, FAR]),
                 put(5, FAR, wide)]
        # -3 before -4 and -6; -4 before -5 and -6; -5 before -6.
        self.assertEqual(refused(start, summed(1, 2, 0)), -3)
        self.assertEqual(refused(start, summed(2, 1, 0)), -3)
        self.assertEqual(refused(start, summed(2, 2, 0)), -4)
        self.assertEqual(refused(start, summed(4, 5, 0)), -4)
        self.assertEqual(refused(start, summed(5, 4, 0)), -4)
        self.assertEqual(refused(start, summed(3, 4, 0)), -5)
        self.assertEqual(refused(start, summed(4, 3, 0)), -5)
        self.assertEqual(refused(start, summed(3, 2, 0)), -6)

    def test_only_the_sums_own_points_must_be_in_range(self):
        # Flat corners and what lies within are in range wherever the sum's points are.
        self.check(0, [FAR - 4, 0], 0, FLAT_SIDES, [FAR - 4, 0, FAR, 0, FAR, 4, FAR - 4, 4])

    def test_to_may_be_empty(self):
        self.assertEqual(ask(put(1, 0, SPOT), summed(1, 1, 63), filled())[1:], [[1], [2, 1, 63]])


class Together(unittest.TestCase):
    def test_what_is_made_is_moved_measured_and_made_again(self):
        answered = ask(
            put(0, 3, [0, 0]), put(1, 0, [8, 0]), put(2, 0, [4, 3]), hull(10, [0, 1, 2]), shape(10), area(10),
            shift(10, 1, 1), shape(10), turn(10, 1, 0, 0), shape(10), flip(10, 0), shape(10), grow(10, 2), box(10),
            convex(10), tidy(10), triangles(10), copy(10, 11), summed(10, 11, 12), shape(12), dist(10, 12),
            hull(12, [12, 0]), shape(12), touch(12, 0), far(12, 0), point(12, 1, 2), inside(2, 12, 1), filled())
        self.assertEqual(answered, [
            [0], [0], [0], [3], [0, 0, 0, 8, 0, 4, 3], [24],
            [0], [0, 1, 1, 9, 1, 5, 4], [0], [0, -1, 1, -1, 9, -4, 5], [0], [0, 1, 1, 4, 5, 1, 9], [0],
            [0, -1, -1, 6, 11], [1], [3], [1, 0, 1, 2], [0], [3], [4, 2, 2, 8, 10, 2, 18], [0, 1],
            [4], [0, 0, 0, 2, 2, 8, 10, 2, 18], [1], [18 * 18 + 4], [2], [0], [6, 0, 1, 2, 10, 11, 12]])

    def test_a_sum_of_hulls_of_polygons_with_right_turns(self):
        answered = ask(put(0, 0, NOTCH), summed(0, 0, 1), hull(0, [0]), summed(0, 0, 1), shape(1), summed(1, 0, 1),
                       shape(1), shift(1, -12, -12), turn(1, 2, 0, 0), shape(1))
        self.assertEqual(answered[1:], [[-3], [4], [4], [0, 0, 0, 8, 0, 8, 8, 0, 8], [4],
                                        [0, 0, 0, 12, 0, 12, 12, 0, 12], [0], [0], [0, 0, 0, 12, 0, 12, 12, 0, 12]])

    def test_the_form_of_bars_that_are_made(self):
        answered = ask(put(0, 0, [5, 9]), put(1, 0, [7, 2]), hull(2, [0, 1]), shape(2), put(3, 0, [0, 0]),
                       put(4, 0, [-3, 0]), hull(5, [3, 4]), shape(5), summed(5, 1, 6), shape(6))
        self.assertEqual([answered[k] for k in (3, 7, 9)], [[0, 7, 2, 5, 9], [0, -3, 0, 0, 0], [0, 4, 2, 7, 2]])


class ByChance(unittest.TestCase):
    def test_hulls(self):
        chance = random.Random(21)
        counts = {}
        for k in range(600):
            size = chance.choice([1, 2, 5, 30, FAR])
            points = [(chance.randint(-size, size), chance.randint(-size, size)) for n in range(chance.randint(1, 40))]
            expected = hull_by_wrapping(points)
            answered = ask(*spots(points), hull(63, range(len(points))), shape(63))
            self.assertEqual(answered[-2:], [[len(expected)], [0] + flat(expected)], points)
            counts[min(len(expected), 9)] = counts.get(min(len(expected), 9), 0) + 1
        self.assertEqual(sorted(counts), [1, 2, 3, 4, 5, 6, 7, 8, 9])

    def test_sums(self):
        chance = random.Random(22)
        made = 0
        while made < 400:
            size = chance.choice([1, 2, 5, 30, FAR // 2])
            shapes = [hull_by_wrapping([(chance.randint(-size, size), chance.randint(-size, size))
                                        for n in range(chance.choice([1, 2, 3, 4, 9]))]) for k in range(2)]
            expected = hull_by_wrapping(sums(*shapes))
            answered = ask(put(0, 1, flat(shapes[0])), put(1, 2, flat(shapes[1])), summed(0, 1, 1), shape(1))
            self.assertEqual(answered[2:], [[len(expected)], [3] + flat(expected)], shapes)
            made += 1


if __name__ == "__main__":
    unittest.main()
