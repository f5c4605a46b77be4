"""clear and copy, and the refusals of places that all calls share."""

import unittest

from lines import (BAR, FAR, HUGE, NOTCH, SPOT, SQUARE, apart, area, ask, box, box_corners, clear, convex, copy, cover,
                   dist, far, flip, grow, hull, inside, last, near, point, put, shape, shift, summed, tidy, touch,
                   triangles, turn, whole_sheet)

# Calls that look at a place, whatever it holds.
ONE_PLACE = [lambda p: shift(p, 1, 1), lambda p: turn(p, 1, 0, 0), lambda p: flip(p, 0), lambda p: grow(p, 1), tidy,
             shape, box, area, convex, lambda p: copy(p, 2), lambda p: dist(p, 0), lambda p: dist(0, p),
             lambda p: far(p, 0), lambda p: far(0, p), lambda p: touch(p, 0), lambda p: touch(0, p),
             lambda p: apart(p, 0, 1), lambda p: apart(0, p, 1), lambda p: point(p, 0, 0),
             lambda p: inside(p, 10, 1), lambda p: hull(2, [p]), lambda p: hull(2, [0, p, 10]),
             lambda p: summed(p, 0, 2), lambda p: summed(0, p, 2), near]
# Calls that look at a place that must hold a shape of some kind.
ONE_OF_A_KIND = [lambda p: inside(0, p, 1), lambda p: cover([p]), lambda p: cover([10, p, 10]), triangles]
# Calls that write to a place without looking at it.
WRITTEN = [lambda p: copy(0, p), lambda p: hull(p, [0, 1]), lambda p: summed(0, 2, p), lambda p: put(p, 0, SPOT)]
BEYOND = (-1, 64, 65, -64, -FAR, FAR, -HUGE, HUGE)
START = [put(0, 1, SQUARE), put(1, 2, NOTCH), put(2, 3, BAR), put(63, 4, SPOT), put(10, 0, box_corners(0, 0, 9, 7))]


class Places(unittest.TestCase):
    def refused(self, call, number):
        before = ask(*START, *whole_sheet())[len(START):]
        answered = ask(*START, call, *whole_sheet())[len(START):]
        self.assertEqual(answered[0], [number], call)
        self.assertEqual(answered[1:], before, call)

    def test_no_such_place(self):
        for place in BEYOND:
            for call in ONE_PLACE + ONE_OF_A_KIND + WRITTEN + [clear]:
                self.refused(call(place), -1)

    def test_an_empty_place(self):
        for place in (3, 31, 62):
            for call in ONE_PLACE + ONE_OF_A_KIND:
                self.refused(call(place), -2)

    def test_an_empty_place_may_be_written_to(self):
        for place in (3, 62):
            for call in WRITTEN:
                answered = ask(*START, call(place), shape(place))[len(START):]
                self.assertGreaterEqual(min(answered[0][0], answered[1][0]), 0)

    def test_the_first_and_the_last_place(self):
        for place in (0, 63):
            for call in ONE_PLACE:
                self.assertGreaterEqual(last(*START, call(place))[0], 0)

    def test_no_such_place_comes_before_an_empty_one(self):
        for place in BEYOND:
            for call in (copy(5, place), copy(place, 5), dist(5, place), dist(place, 5), dist(place, place),
                         far(5, place), touch(place, 5), apart(5, place, 0), inside(place, 5, 0), hull(place, [5]),
                         hull(5, [5, place]), summed(5, 5, place), summed(5, place, 5), cover([5, 63, place])):
                self.refused(call, -1)
        self.refused(dist(5, 6), -2)
        self.refused(dist(5, 5), -2)
        self.refused(copy(5, 0), -2)
        self.refused(copy(5, 5), -2)

    def test_refusals_of_places_come_before_others(self):
        for place, number in ((64, -1), (5, -2)):
            self.refused(shift(place, HUGE, HUGE), number)
            self.refused(turn(place, 1, HUGE, HUGE), number)
            self.refused(flip(place, -HUGE), number)
            self.refused(grow(place, -HUGE), number)
            self.refused(apart(0, place, -HUGE), number)
            self.refused(point(place, HUGE, HUGE), number)
            self.refused(inside(place, 63, HUGE), number)
            self.refused(inside(0, place, 0), number)
            self.refused(summed(1, place, 0), number)
            self.refused(cover([63, place]), number)


class Clear(unittest.TestCase):
    def test_a_place_that_held_a_shape(self):
        for numbers in (SPOT, BAR, SQUARE):
            self.assertEqual(ask(put(9, 1, numbers), clear(9), shape(9), clear(9)), [[0], [1], [-2], [0]])

    def test_an_empty_place(self):
        self.assertEqual(ask(*[clear(place) for place in range(64)]), [[0]] * 64)

    def test_no_other_place(self):
        before = ask(*START, *whole_sheet())[len(START):]
        after = ask(*START, clear(1), *whole_sheet())[len(START) + 1:]
        self.assertEqual(after, before[:1] + [[-2]] + before[2:])

    def test_a_place_can_be_filled_again(self):
        self.assertEqual(ask(put(9, 1, SPOT), clear(9), put(9, 2, BAR), shape(9))[2:], [[0], [2] + BAR])


class Copy(unittest.TestCase):
    def test_both_hold_it(self):
        for numbers in (SPOT, BAR, SQUARE, NOTCH):
            self.assertEqual(ask(put(9, 6, numbers), copy(9, 63), shape(9), shape(63))[1:],
                             [[0], [6] + numbers, [6] + numbers])

    def test_onto_a_place_that_holds_a_shape(self):
        self.assertEqual(ask(put(9, 6, BAR), put(8, 1, SQUARE), copy(9, 8), shape(8))[2:], [[0], [6] + BAR])

    def test_onto_the_same_place(self):
        self.assertEqual(ask(put(9, 6, BAR), copy(9, 9), shape(9))[1:], [[0], [6] + BAR])

    def test_a_change_of_one_is_none_of_the_other(self):
        flat_corner = [0, 0, 2, 0, 4, 0, 4, 4]
        for change in (lambda p: shift(p, 1, 1), lambda p: turn(p, 1, 0, 0), lambda p: flip(p, 5),
                       lambda p: grow(p, 1), tidy, clear, lambda p: put(p, 0, SPOT)):
            for changed, other in ((9, 8), (8, 9)):
                answered = ask(put(9, 6, flat_corner), copy(9, 8), change(changed), shape(other), shape(changed))
                self.assertEqual(answered[3], [6] + flat_corner)
                self.assertNotEqual(answered[4], [6] + flat_corner)


if __name__ == "__main__":
    unittest.main()
