"""shift, turn, flip, grow and tidy."""

import unittest

from lines import (BAR, FAR, HUGE, NOTCH, SPOT, SQUARE, ask, flat, flip, form_by_trial, grow, last, pairs, put, shape,
                   shift, tidy, turn)

LONG_SIDES = [0, 0, 1, 0, 2, 0, 3, 0, 4, 0, 4, 2, 4, 4, 3, 4, 0, 4, 0, 1]
SKELETONS = (SPOT, BAR, [4, 0, 0, 2], [-1, 5, 6, 5], SQUARE, NOTCH, LONG_SIDES, [5, 1, 9, 3, 2, 8])


class Moving(unittest.TestCase):
    def moved(self, numbers, call, expected):
        self.assertEqual(ask(put(4, 11, numbers), call, shape(4)), [[0], [0], [11] + expected], (numbers, call))

    def unmoved(self, numbers, call, number):
        self.assertEqual(ask(put(4, 11, numbers), call, shape(4)), [[0], [number], [11] + numbers], (numbers, call))


class Shift(Moving):
    def test_each_coordinate(self):
        for numbers in SKELETONS:
            expected = flat([(x + 7, y - 3) for x, y in pairs(numbers)])
            self.moved(numbers, shift(4, 7, -3), expected)
            self.moved(numbers, shift(4, 0, 0), numbers)

    def test_to_the_end_of_the_range(self):
        self.moved([0, 0], shift(4, FAR, -FAR), [FAR, -FAR])
        self.moved([-FAR, FAR], shift(4, 2 * FAR, -2 * FAR), [FAR, -FAR])
        self.moved(BAR, shift(4, FAR - 4, FAR - 2), [FAR - 4, FAR - 2, FAR, FAR])
        self.moved(SQUARE, shift(4, -FAR, -FAR), flat([(x - FAR, y - FAR) for x, y in pairs(SQUARE)]))

    def test_beyond_the_range(self):
        for dx, dy in ((FAR + 1, 0), (-FAR - 1, 0), (0, FAR + 1), (0, -FAR - 1), (HUGE, 0), (-HUGE, 0), (0, HUGE),
                       (0, -HUGE), (HUGE, -HUGE)):
            self.unmoved([0, 0], shift(4, dx, dy), -6)

    def test_one_point_beyond_the_range(self):
        for numbers, dx, dy in ((BAR, FAR - 3, 0), (BAR, 0, FAR - 1), (BAR, -FAR - 1, 0), (SQUARE, 0, FAR - 3),
                                ([5, 1, 9, 3, 2, 8], FAR - 8, 0), ([5, 1, 9, 3, 2, 8], -FAR - 3, 0),
                                ([5, 1, 9, 3, 2, 8], 0, FAR - 7), ([5, 1, 9, 3, 2, 8], 0, -FAR - 2)):
            self.unmoved(numbers, shift(4, dx, dy), -6)


class Turn(Moving):
    def test_one_quarter_turn(self):
        self.moved([3, 1], turn(4, 1, 0, 0), [-1, 3])
        self.moved([3, 1], turn(4, 1, 1, 1), [1, 3])
        self.moved([3, 1], turn(4, 1, 5, -2), [2, -4])

    def test_k_modulo_4(self):
        ends = {0: [3, 1], 1: [-1, 3], 2: [-3, -1], 3: [1, -3]}
        for k in list(range(-9, 10)) + [HUGE, -HUGE, HUGE - 1, 1 - HUGE, HUGE - 2, 2 - HUGE, HUGE - 3, 3 - HUGE]:
            self.moved([3, 1], turn(4, k, 0, 0), ends[k % 4])

    def test_the_form_after_a_turn(self):
        self.moved(SQUARE, turn(4, 1, 0, 0), [-4, 0, 0, 0, 0, 4, -4, 4])
        self.moved(NOTCH, turn(4, 1, 0, 0), [-4, 0, 0, 0, 0, 4, -4, 4, -2, 2])
        self.moved(NOTCH, turn(4, 2, 2, 2), [0, 0, 2, 2, 4, 0, 4, 4, 0, 4])
        self.moved(NOTCH, turn(4, 3, 2, 2), [0, 0, 4, 0, 2, 2, 4, 4, 0, 4])

    def test_a_bars_ends_change_places(self):
        self.moved([0, 0, 4, 2], turn(4, 2, 0, 0), [-4, -2, 0, 0])
        self.moved([0, 0, 4, 0], turn(4, 1, 0, 0), [0, 0, 0, 4])
        self.moved([0, 0, 4, 0], turn(4, 3, 0, 0), [0, -4, 0, 0])
        self.moved([0, 0, 0, 4], turn(4, 1, 0, 0), [-4, 0, 0, 0])
        self.moved([0, 0, 0, 4], turn(4, 3, 0, 0), [0, 0, 4, 0])

    def test_all_skeletons_by_the_document(self):
        for numbers in SKELETONS:
            for k in range(-5, 9):
                points = pairs(numbers)
                for quarter in range(k % 4):
                    points = [(3 - (y + 2), -2 + (x - 3)) for x, y in points]
                self.moved(numbers, turn(4, k, 3, -2), flat(form_by_trial(points)))

    def test_only_the_end_must_be_in_range(self):
        for k in (0, 4, -4, 8, HUGE):
            self.moved(NOTCH, turn(4, k, HUGE, -HUGE), NOTCH)
            self.moved(NOTCH, turn(4, k, -HUGE, FAR + 1), NOTCH)
        self.moved([FAR, FAR], turn(4, 1, 2 * FAR, 0), [FAR, -FAR])
        self.moved([FAR, -FAR], turn(4, 3, 2 * FAR, 0), [FAR, FAR])
        # One quarter turn alone would leave the range.
        self.moved([FAR, FAR], turn(4, 2, FAR // 2, FAR), [0, FAR])
        self.unmoved([FAR, FAR], turn(4, 1, FAR // 2, FAR), -6)
        self.moved([FAR, 0], turn(4, 2, FAR, -FAR // 2), [FAR, -FAR])
        self.moved([0, 0], turn(4, 1, FAR, 0), [FAR, -FAR])
        self.moved([FAR, FAR], turn(4, 1, FAR + 500, -500), [0, -1000])
        self.moved([FAR, FAR], turn(4, 3, -500, FAR + 500), [-1000, 0])

    def test_the_end_beyond_the_range(self):
        self.moved([0, 0], turn(4, 2, FAR // 2, -FAR // 2), [FAR, -FAR])
        self.unmoved([1, 0], turn(4, 2, FAR // 2 + 1, 0), -6)
        self.unmoved([0, 0], turn(4, 2, 0, -FAR // 2 - 1), -6)
        self.unmoved([0, 0], turn(4, 1, FAR, 1), -6)
        self.unmoved([0, 0], turn(4, 1, FAR, -1), -6)
        for k in (1, 2, 3, -1):
            for cx, cy in ((HUGE, HUGE), (HUGE, -HUGE), (-HUGE, HUGE), (-HUGE, 0), (0, HUGE)):
                self.unmoved(NOTCH, turn(4, k, cx, cy), -6)

    def test_one_point_beyond_the_range(self):
        self.unmoved([0, 0, 4, 2], turn(4, 1, -FAR // 2, -FAR // 2 + 1), -6)
        self.moved([0, 0, 4, 1], turn(4, 1, -FAR // 2, -FAR // 2 + 1), [-FAR + 1, 1, -FAR, 5])
        self.unmoved([0, 0, 4, 0, 4, 4], turn(4, 2, -FAR // 2 + 1, 0), -6)
        self.moved([0, 0, 2, 0, 2, 4], turn(4, 2, -FAR // 2 + 1, 0), [-FAR, -4, -FAR + 2, 0, -FAR, 0])


class Flip(Moving):
    def test_a_spot(self):
        self.moved([3, 1], flip(4, 0), [-3, 1])
        self.moved([3, 1], flip(4, 5), [7, 1])
        self.moved([3, 1], flip(4, 3), [3, 1])

    def test_a_bars_ends(self):
        self.moved([0, 0, 4, 2], flip(4, 1), [2, 0, -2, 2])
        self.moved([0, 3, 4, 3], flip(4, 1), [-2, 3, 2, 3])

    def test_the_order_of_corners_is_turned_round(self):
        self.moved(SQUARE, flip(4, 0), [-4, 0, 0, 0, 0, 4, -4, 4])
        self.moved([0, 0, 5, 1, 3, 4], flip(4, 0), [0, 0, -3, 4, -5, 1])
        self.moved(LONG_SIDES, flip(4, 2), [0, 0, 1, 0, 2, 0, 3, 0, 4, 0, 4, 1, 4, 4, 1, 4, 0, 4, 0, 2])

    def test_all_skeletons_by_the_document(self):
        for numbers in SKELETONS:
            for cx in (-3, 0, 2, FAR // 2):
                expected = form_by_trial([(2 * cx - x, y) for x, y in pairs(numbers)][::-1])
                if all(abs(x) <= FAR for x, y in expected):
                    self.moved(numbers, flip(4, cx), flat(expected))
                else:
                    self.unmoved(numbers, flip(4, cx), -6)

    def test_range(self):
        self.moved([0, 7], flip(4, FAR // 2), [FAR, 7])
        self.moved([FAR, 7], flip(4, FAR), [FAR, 7])
        self.moved([0, 7], flip(4, -FAR // 2), [-FAR, 7])
        self.moved([4, 0, 6, 2], flip(4, FAR // 2 + 2), [FAR, 0, FAR - 2, 2])
        self.unmoved([-1, 7], flip(4, FAR // 2), -6)
        self.unmoved([1, 7], flip(4, -FAR // 2), -6)
        self.unmoved([4, 0, 3, 2], flip(4, FAR // 2 + 2), -6)
        self.unmoved([4, 0, 9, 0, 3, 2], flip(4, FAR // 2 + 2), -6)
        for cx in (HUGE, -HUGE):
            self.unmoved(SQUARE, flip(4, cx), -6)


class Grow(unittest.TestCase):
    def grown(self, r, d):
        return ask(put(4, r, NOTCH), grow(4, d), shape(4))[1:]

    def test_within_the_range(self):
        for r, d in ((5, 3), (5, -3), (5, 0), (5, -5), (0, 0), (0, FAR), (FAR, 0), (FAR, -FAR), (FAR - 1, 1),
                     (1, -1)):
            self.assertEqual(self.grown(r, d), [[0], [r + d] + NOTCH])

    def test_beyond_the_range(self):
        for r, d in ((5, -6), (0, -1), (0, FAR + 1), (FAR, 1), (1, FAR), (FAR, -FAR - 1), (5, HUGE), (5, -HUGE)):
            self.assertEqual(self.grown(r, d), [[-4], [r] + NOTCH])

    def test_growing_twice(self):
        self.assertEqual(last(put(4, 1, SPOT), grow(4, 2), grow(4, 3), shape(4)), [6] + SPOT)


class Tidy(unittest.TestCase):
    def tidied(self, numbers):
        return ask(put(4, 11, numbers), tidy(4), shape(4))[1:]

    def test_no_flat_corner(self):
        for numbers in (SQUARE, NOTCH, [5, 1, 9, 3, 2, 8]):
            self.assertEqual(self.tidied(numbers), [[len(numbers) // 2], [11] + numbers])

    def test_spots_and_bars_stay(self):
        self.assertEqual(self.tidied(SPOT), [[1], [11] + SPOT])
        self.assertEqual(self.tidied(BAR), [[2], [11] + BAR])

    def test_several_flat_corners_in_one_row(self):
        self.assertEqual(self.tidied(LONG_SIDES), [[4], [11] + SQUARE])
        self.assertEqual(self.tidied([0, 0, 1, 0, 2, 0, 3, 0, 0, 3]), [[3], [11, 0, 0, 3, 0, 0, 3]])
        self.assertEqual(self.tidied([0, 0, 6, 2, 3, 3, 0, 4, 0, 3, 0, 2, 0, 1]), [[3], [11, 0, 0, 6, 2, 0, 4]])

    def test_a_right_turn_is_not_flat(self):
        self.assertEqual(self.tidied([0, 0, 4, 0, 4, 4, 3, 3, 2, 2, 1, 3, 0, 4, 0, 2]), [[5], [11] + NOTCH])

    def test_thirty_two_corners(self):
        corners = [(k, 0) for k in range(8)] + [(8, k) for k in range(8)]
        corners = corners + [(8 - x, 8 - y) for x, y in corners]
        self.assertEqual(len(corners), 32)
        self.assertEqual(self.tidied(flat(corners)), [[4], [11, 0, 0, 8, 0, 8, 8, 0, 8]])

    def test_a_second_time_changes_nothing(self):
        self.assertEqual(ask(put(4, 1, LONG_SIDES), tidy(4), tidy(4), shape(4))[1:], [[4], [4], [1] + SQUARE])


if __name__ == "__main__":
    unittest.main()
