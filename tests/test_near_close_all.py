"""near, close and all: what is asked of the whole sheet."""

import random
import unittest

from lines import (BAR, FAR, HUGE, NOTCH, SPOT, SQUARE, apart, ask, clear, close, copy, dist, filled, flip, grow, hull,
                   last, near, put, refused, shape, shift, summed, tidy, turn, whole_sheet)


class Near(unittest.TestCase):
    def test_the_nearest_and_its_distance(self):
        start = [put(0, 0, [0, 0]), put(1, 0, [5, 0]), put(2, 0, [0, 3]), put(3, 0, [-9, -9])]
        self.assertEqual(ask(*start, near(0), near(1), near(2), near(3))[4:],
                         [[2, 9, 1], [0, 25, 1], [0, 9, 1], [0, 162, 1]])

    def test_each_kind_of_skeleton(self):
        start = [put(10, 0, SQUARE), put(20, 0, [7, 8, 9, 9]), put(30, 0, [0, 9]), put(40, 0, [6, 1, 9, 1, 9, 3])]
        self.assertEqual(ask(*start, near(10), near(20), near(30), near(40))[4:],
                         [[40, 4, 1], [10, 25, 1], [10, 25, 1], [10, 4, 1]])

    def test_a_distance_that_is_a_fraction_in_least_terms(self):
        self.assertEqual(last(put(5, 0, [0, 0, 1, 1]), put(6, 0, [0, 1]), put(7, 0, [9, 9]), near(5)), [6, 1, 2])
        self.assertEqual(last(put(5, 0, [3, 0]), put(6, 0, [9, 9]), put(7, 0, [0, 0, 2, 2]), near(5)), [7, 9, 2])
        # The squared left turn 16 by the squared length 160.
        start = [put(5, 0, [4, 0]), put(6, 0, [0, -1, 12, 3])]
        self.assertEqual(last(*start, near(5)), [6, 1, 10])
        self.assertEqual(last(*start, put(1, 0, [5, 0]), near(5)), [6, 1, 10])
        self.assertEqual(last(*start, put(63, 0, [4, 0]), near(5)), [63, 0, 1])

    def test_of_several_the_least_number(self):
        ring = [[3, 4], [-3, 4], [5, 0], [0, -5], [-5, -1, -5, 8]]
        for order in (ring, ring[::-1], ring[2:] + ring[:2]):
            places = (40, 9, 63, 22, 11)
            start = [put(30, 0, [0, 0])] + [put(place, 0, numbers) for place, numbers in zip(places, order)]
            self.assertEqual(last(*start, near(30)), [9, 25, 1])
            self.assertEqual(last(*start, clear(9), near(30)), [11, 25, 1])
            self.assertEqual(last(*start, put(8, 0, [5, 1]), near(30)), [9, 25, 1])
            self.assertEqual(last(*start, put(62, 0, [4, 2]), near(30)), [62, 20, 1])

    def test_of_several_with_a_point_in_common(self):
        start = [put(30, 0, SQUARE), put(40, 0, [2, 2]), put(31, 0, BAR), put(29, 0, [5, 0])]
        self.assertEqual(last(*start, near(30)), [31, 0, 1])
        self.assertEqual(last(*start, put(0, 0, [9, -9, 9, 9, -9, 9, -9, -9]), near(30)), [0, 0, 1])

    def test_equal_fractions_told_by_unlike_terms(self):
        # 1 / 2 is the squared left turn 4 by the squared length 8, and 1 by 2.
        start = [put(1, 0, [0, 0]), put(9, 0, [0, 1, 1, 0]), put(4, 0, [-1, 0, 1, -2])]
        self.assertEqual(ask(*start, dist(1, 9), dist(1, 4))[3:], [[1, 2], [1, 2]])
        self.assertEqual(last(*start, near(1)), [4, 1, 2])

    def test_the_place_itself_is_left_out(self):
        self.assertEqual(last(put(3, 0, SPOT), put(60, 0, [100, 2]), near(3)), [60, 99 * 99, 1])
        self.assertEqual(last(put(3, 0, SPOT), copy(3, 60), near(60)), [3, 0, 1])

    def test_radii_make_no_difference(self):
        start = [put(0, FAR, [0, 0]), put(1, FAR, [5, 0]), put(2, 0, [0, 3])]
        self.assertEqual(ask(*start, near(0), near(1))[3:], [[2, 9, 1], [0, 25, 1]])

    def test_boxes_that_are_nearer_than_their_skeletons(self):
        # The box around the bar holds the spot, the other spot is nearer.
        start = [put(0, 0, [9, 1]), put(1, 0, [0, 0, 10, 10]), put(2, 0, [11, 3])]
        self.assertEqual(last(*start, near(0)), [2, 8, 1])

    def test_the_largest_numbers(self):
        start = [put(0, 0, [-FAR, -FAR]), put(1, 0, [FAR, FAR])]
        self.assertEqual(last(*start, near(0)), [1, 8 * FAR * FAR, 1])
        self.assertEqual(last(*start, put(2, 0, [FAR, FAR - 1]), near(0)), [2, 8 * FAR * FAR - 4 * FAR + 1, 1])

    def test_no_other_shape(self):
        self.assertEqual(refused([put(3, 0, SPOT)], near(3)), -9)
        self.assertEqual(refused([put(3, 0, SPOT), put(4, 0, SPOT), clear(4)], near(3)), -9)
        self.assertEqual(refused([put(63, FAR, SQUARE)], near(63)), -9)

    def test_the_one_nearest_to_0(self):
        self.assertEqual(refused([], near(3)), -2)
        self.assertEqual(refused([put(4, 0, SPOT)], near(3)), -2)
        self.assertEqual(refused([put(4, 0, SPOT), put(5, 0, BAR)], near(3)), -2)
        for place in (-1, 64, HUGE, -HUGE):
            self.assertEqual(refused([], near(place)), -1)
            self.assertEqual(refused([put(4, 0, SPOT)], near(place)), -1)


class Close(unittest.TestCase):
    def test_none(self):
        self.assertEqual(ask(close(1), put(5, 0, SPOT), close(FAR), put(6, 0, [1000, 0]), close(1))[-1], [0])
        self.assertEqual(ask(close(1), close(FAR)), [[0], [0]])
        self.assertEqual(ask(put(5, 0, SPOT), close(FAR)), [[0], [0]])

    def test_just_at_the_distance(self):
        start = [put(5, 1, [0, 0]), put(6, 2, [6, 8])]
        for c, expected in ((6, [0]), (7, [0]), (8, [1, 5, 6]), (FAR, [1, 5, 6])):
            self.assertEqual(last(*start, close(c)), expected)
            self.assertEqual(last(*start, apart(5, 6, c)), [1 if expected == [0] else 0])

    def test_a_fraction(self):
        start = [put(5, 0, [3, 0]), put(6, 0, [0, 0, 3, 6])]
        self.assertEqual(ask(*start, close(2), close(3))[2:], [[0], [1, 5, 6]])

    def test_the_order_of_the_pairs(self):
        start = [put(place, 0, [place % 5, 0]) for place in (40, 3, 63, 0, 22)]
        self.assertEqual(last(*start, close(FAR)),
                         [10, 0, 3, 0, 22, 0, 40, 0, 63, 3, 22, 3, 40, 3, 63, 22, 40, 22, 63, 40, 63])

    def test_some_of_them(self):
        start = [put(9, 0, [0, 0]), put(2, 0, [4, 0]), put(30, 1, [8, 0]), put(8, 0, [8, 4, 20, 4]),
                 put(50, 0, [100, 0, 101, 0, 101, 3])]
        self.assertEqual(ask(*start, close(1), close(3), close(4), close(5), close(100), close(101))[5:],
                         [[0], [0], [2, 2, 30, 8, 30], [3, 2, 9, 2, 30, 8, 30],
                          [9, 2, 8, 2, 9, 2, 30, 2, 50, 8, 9, 8, 30, 8, 50, 9, 30, 30, 50],
                          [10, 2, 8, 2, 9, 2, 30, 2, 50, 8, 9, 8, 30, 8, 50, 9, 30, 9, 50, 30, 50]])

    def test_shapes_that_have_a_point_in_common(self):
        self.assertEqual(last(put(0, 0, SQUARE), put(1, 0, [2, 2]), put(2, 5, [9, 4]), close(1)),
                         [2, 0, 1, 0, 2])

    def test_after_changes(self):
        answered = ask(put(0, 0, SPOT), copy(0, 1), close(1), shift(1, 1, 0), close(1), close(2), grow(0, 1), close(1),
                       clear(0), close(FAR))
        self.assertEqual([answered[k] for k in (2, 4, 5, 7, 9)], [[1, 0, 1], [0], [1, 0, 1], [1, 0, 1], [0]])

    def test_all_places(self):
        start = [put(place, 0, [2 * place, 0]) for place in range(64)]
        every = [number for i in range(64) for j in range(i + 1, 64) for number in (i, j)]
        steps = [number for i in range(63) for number in (i, i + 1)]
        self.assertEqual(ask(*start, close(2), close(3), close(FAR))[64:], [[0], [63] + steps, [2016] + every])

    def test_many_numbers_are_answered(self):
        start = [put(place, 0, SPOT) for place in range(64)]
        answered = ask(*start, *[close(1)] * 100)
        self.assertEqual({len(answer) for answer in answered[64:]}, {1 + 2 * 2016})

    def test_a_distance_out_of_range(self):
        for start in ([], [put(1, 0, SPOT), put(2, 0, BAR)]):
            for c in (0, -1, FAR + 1, HUGE, -HUGE):
                self.assertEqual(refused(start, close(c)), -8)
        for c in (1, FAR):
            self.assertGreaterEqual(last(put(1, 0, SPOT), put(2, 0, BAR), close(c))[0], 0)

    def test_as_apart_answers(self):
        chance = random.Random(31)
        for k in range(60):
            places = chance.sample(range(64), 8)
            start = []
            for place in places:
                numbers = [chance.randint(-40, 40) for n in range(chance.choice([2, 4, 6]))]
                start.append(put(place, chance.choice([0, 1, 5]), numbers))
            held = last(*start, filled())[1:]
            c = chance.choice([1, 2, 5, 10, 30])
            asked = [(i, j) for i in held for j in held if i < j]
            answered = ask(*start, close(c), *[apart(i, j, c) for i, j in asked])[len(start):]
            pairs = [pair for pair, answer in zip(asked, answered[1:]) if answer == [0]]
            self.assertEqual(answered[0], [len(pairs)] + [number for pair in pairs for number in pair])


class All(unittest.TestCase):
    def test_none(self):
        self.assertEqual(ask(filled()), [[0]])
        self.assertEqual(ask(filled(), shape(5), filled()), [[0], [-2], [0]])

    def test_some_in_order(self):
        start = [put(place, 1, SPOT) for place in (63, 5, 0, 17)]
        self.assertEqual(last(*start, filled()), [4, 0, 5, 17, 63])
        self.assertEqual(last(*start, put(5, 0, BAR), filled()), [4, 0, 5, 17, 63])

    def test_all_places(self):
        start = [put(63 - place, 0, [place, 0]) for place in range(64)]
        self.assertEqual(last(*start, filled()), [64] + list(range(64)))
        self.assertEqual(last(*start, clear(0), clear(63), filled()), [62] + list(range(1, 63)))

    def test_after_clear_and_copy(self):
        answered = ask(put(5, 1, SPOT), filled(), copy(5, 3), filled(), clear(5), filled(), copy(3, 3), filled(),
                       clear(3), filled(), clear(3), filled())
        self.assertEqual(answered[1::2], [[1, 5], [2, 3, 5], [1, 3], [1, 3], [0], [0]])

    def test_after_hull_and_sum(self):
        answered = ask(put(5, 1, SPOT), hull(9, [5]), filled(), summed(5, 9, 0), filled())
        self.assertEqual(answered[2::2], [[2, 5, 9], [3, 0, 5, 9]])

    def test_refused_calls_leave_it(self):
        answered = ask(put(5, 1, SPOT), put(6, 1, []), copy(7, 8), hull(9, []), hull(9, [4]), summed(5, 4, 9), filled())
        self.assertEqual(answered[1:], [[-5], [-2], [-5], [-2], [-2], [1, 5]])


class OnlyAsked(unittest.TestCase):
    def test_the_sheet_is_as_before(self):
        start = [put(0, 3, NOTCH), put(9, 0, [0, 0, 2, 0, 4, 0, 4, 4]), put(63, 7, BAR), shift(0, 1, 1), flip(9, 3),
                 turn(63, 1, 0, 0)]
        before = ask(*start, *whole_sheet())[len(start):]
        asking = [near(0), near(9), near(63), close(1), close(FAR), filled(), near(5), close(0)]
        self.assertEqual(ask(*start, *asking, *whole_sheet())[len(start) + len(asking):], before)
        self.assertEqual(last(*start, *asking, tidy(9)), [3])


if __name__ == "__main__":
    unittest.main()
