"""Lines of calls drawn by chance (the same ones each time), against a sheet that is reckoned in another way."""

import math
import random
import unittest

from fractions import Fraction

from lines import (FAR, HUGE, ask, box_corners, cover, cover_by_cells, cross, dist_by_fractions, dot, flat,
                   form_by_trial, hull, hull_by_wrapping, inside_by_fractions, minus, pairs, put, segments,
                   simple_by_fractions, sums, triangles_by_words, where_by_fractions)

# How many whole numbers each call has, and with how many places it begins; rows are left out.
LENGTHS = {0: 2, 1: 1, 2: 2, 3: 3, 4: 4, 5: 2, 6: 2, 7: 1, 8: 1, 9: 1, 10: 1, 11: 1, 12: 2, 13: 2, 14: 2, 15: 3,
           16: 3, 17: 3, 19: 3, 20: 1, 21: 1, 23: 1, 24: 0}
PLACES = {2: 2, 12: 2, 13: 2, 14: 2, 15: 2, 17: 2, 19: 3, 21: 0, 24: 0}


class Model:
    """A sheet: a dict of places to (r, points in their form)."""

    def __init__(self):
        self.held = {}

    def answer(self, call):
        number, given = call[0], call[1:]
        told = {18: given[:1] + given[2:], 22: given[1:]}.get(number, given[:PLACES.get(number, 1)])
        if any(place not in range(64) for place in told):
            return [-1]
        looked_at = {0: [], 1: [], 2: told[:1], 18: told[1:], 19: told[:2]}.get(number, told)
        if any(place not in self.held for place in looked_at):
            return [-2]
        return getattr(self, f"call{number}")(*given)

    def keep(self, place, r, points):
        if any(not -FAR <= number <= FAR for number in flat(points)):
            return [-6]
        if len(points) == 2 and points[0] == points[1] or len(points) > 2 and not simple_by_fractions(points):
            return [-7]
        self.held[place] = (r, form_by_trial(points))
        return [0]

    def call0(self, place, r, count, *numbers):
        if r not in range(FAR + 1):
            return [-4]
        if count not in range(2, 65, 2):
            return [-5]
        return self.keep(place, r, pairs(numbers))

    def call1(self, place):
        return [0 if self.held.pop(place, None) is None else 1]

    def call2(self, source, to):
        self.held[to] = self.held[source]
        return [0]

    def call3(self, place, dx, dy):
        r, points = self.held[place]
        return self.keep(place, r, [(x + dx, y + dy) for x, y in points])

    def call4(self, place, k, cx, cy):
        r, points = self.held[place]
        across, up = {0: (1, 0), 1: (0, 1), 2: (-1, 0), 3: (0, -1)}[k % 4]
        away = [minus(p, (cx, cy)) for p in points]
        return self.keep(place, r, [(cx + x * across - y * up, cy + x * up + y * across) for x, y in away])

    def call5(self, place, cx):
        r, points = self.held[place]
        return self.keep(place, r, [(cx + (cx - x), y) for x, y in points])

    def call6(self, place, d):
        r, points = self.held[place]
        if r + d not in range(FAR + 1):
            return [-4]
        self.held[place] = (r + d, points)
        return [0]

    def call7(self, place):
        r, points = self.held[place]
        if len(points) > 2:
            sides = segments(points)
            points = [b for (a, b), (b, c) in zip(sides[-1:] + sides, sides) if cross(minus(b, a), minus(c, b)) != 0]
        self.held[place] = (r, points)
        return [len(points)]

    def call8(self, place):
        r, points = self.held[place]
        return [r] + flat(points)

    def call9(self, place):
        r, points = self.held[place]
        xs, ys = sorted(x for x, y in points), sorted(y for x, y in points)
        return [0, xs[0] - r, ys[0] - r, xs[-1] + r, ys[-1] + r]

    def call10(self, place):
        points = self.held[place][1]
        if len(points) < 3:
            return [0]
        return [sum((a[0] + b[0]) * (b[1] - a[1]) for a, b in segments(points))]

    def call11(self, place):
        points = self.held[place][1]
        if len(points) < 3:
            return [1]
        return [int(all(cross(minus(b, a), minus(p, a)) >= 0 for a, b in segments(points) for p in points))]

    def call12(self, i, j):
        return dist_by_fractions(self.held[i][1], self.held[j][1])

    def call13(self, i, j):
        return [max(dot(minus(p, q), minus(p, q)) for p in self.held[i][1] for q in self.held[j][1])]

    def square(self, i, j):
        return Fraction(*dist_by_fractions(self.held[i][1], self.held[j][1]))

    def call14(self, i, j):
        return [int(self.square(i, j) <= (self.held[i][0] + self.held[j][0]) ** 2)]

    def call15(self, i, j, c):
        if c not in range(1, FAR + 1):
            return [-8]
        return [int(self.square(i, j) >= (self.held[i][0] + self.held[j][0] + c) ** 2)]

    def call16(self, place, x, y):
        if max(abs(x), abs(y)) > FAR:
            return [-6]
        return [where_by_fractions(*self.held[place], (x, y))]

    def call17(self, i, j, m):
        r, polygon = self.held[j]
        if r != 0 or len(polygon) < 3:
            return [-3]
        if m not in range(1, FAR + 1):
            return [-8]
        return [inside_by_fractions(*self.held[i], polygon, m)]

    def call18(self, to, count, *places):
        if count == 0:
            return [-5]
        return self.wrap(to, 0, [p for place in places for p in self.held[place][1]])

    def wrap(self, to, r, points):
        corners = hull_by_wrapping(points)
        if len(corners) > 32:
            return [-5]
        answer = self.keep(to, r, corners)
        return [len(corners)] if answer == [0] else answer

    def call19(self, i, j, to):
        if 0 in self.call11(i) + self.call11(j):
            return [-3]
        r = self.held[i][0] + self.held[j][0]
        if r > FAR:
            return [-4]
        return self.wrap(to, r, sums(self.held[i][1], self.held[j][1]))

    def call20(self, place):
        found = [(self.square(place, other), other) for other in self.held if other != place]
        if not found:
            return [-9]
        square, other = min(found)
        return [other, square.numerator, square.denominator]

    def call21(self, c):
        if c not in range(1, FAR + 1):
            return [-8]
        found = [(i, j) for i in sorted(self.held) for j in sorted(self.held) if i < j and self.call15(i, j, c) == [0]]
        return [len(found)] + flat(found)

    def call22(self, count, *places):
        boxes = []
        for place in places:
            r, points = self.held[place]
            (left, low), (right, high) = min(points), max(points)
            if r != 0 or sorted(points) != sorted({(x, y) for x in (left, right) for y in (low, high)}):
                return [-3]
            if len(points) != 4:
                return [-3]
            boxes.append((left, low, right, high))
        return [cover_by_cells(boxes)]

    def call23(self, place):
        points = self.held[place][1]
        return triangles_by_words(points) if len(points) > 2 else [-3]

    def call24(self):
        return [len(self.held)] + sorted(self.held)


def drawn_points(chance, size):
    """Points of a skeleton, or nearly of one."""
    count = chance.choice([1, 2, 3, 3, 4, 4, 5, 6, 8, 12])
    points = [(chance.randint(-size, size), chance.randint(-size, size)) for k in range(count)]
    if chance.random() < 0.8:
        middle = chance.choice(points)
        points = sorted(set(points), key=lambda p: math.atan2(p[1] - middle[1], p[0] - middle[0]))
        if chance.random() < 0.5:
            points.reverse()
        k = chance.randrange(len(points))
        points = points[k:] + points[:k]
    return points


def drawn_number(chance, size):
    """A number for an argument that is no place."""
    pool = [0, 1, -1, 2, 3, 4, -size, size, chance.randint(-2 * size, 2 * size)]
    if chance.random() < 0.03:
        pool = [HUGE, -HUGE, FAR, -FAR, FAR + 1, -FAR - 1]
    return chance.choice(pool)


def drawn_place(chance):
    if chance.random() < 0.01:
        return chance.choice([-1, 64, HUGE, -HUGE])
    return chance.choice([0, 1, 2, 3, 62, 63])


def drawn_put(chance, size, place=None):
    r = chance.choice([0, 0, 0, 1, 5, size]) if chance.random() < 0.98 else drawn_number(chance, size)
    numbers = flat(drawn_points(chance, size))
    if chance.random() < 0.02:
        numbers.append(7)
    if chance.random() < 0.02:
        numbers[chance.randrange(len(numbers))] = drawn_number(chance, size)
    return put(drawn_place(chance) if place is None else place, r, numbers)


def drawn_box(chance, size):
    """A call that puts a box, told from any corner and either way round."""
    xs = [chance.randint(-size, size - 1) for k in range(2)]
    ys = [chance.randint(-size, size - 1) for k in range(2)]
    corners = pairs(box_corners(min(xs), min(ys), max(xs) + 1, max(ys) + 1))
    k = chance.randrange(4)
    return put(drawn_place(chance), 0, flat((corners[k:] + corners[:k])[::chance.choice([1, -1])]))


def drawn_call(chance, size):
    number = chance.choice([0] * 8 + list(range(1, 25)) + [8] * 3 + list(range(12, 25)))
    if number == 0:
        return drawn_box(chance, size) if chance.random() < 0.3 else drawn_put(chance, size)
    row = [drawn_place(chance) for k in range(chance.choice([0, 1, 1, 2, 2, 2, 3, 4]))]
    if number == 18:
        return hull(drawn_place(chance), row)
    if number == 22:
        return cover(row)
    call = [number]
    while len(call) <= LENGTHS[number]:
        call.append(drawn_place(chance) if len(call) <= PLACES.get(number, 1) else drawn_number(chance, size))
    return call


class ByChance(unittest.TestCase):
    def check_lines(self, seed, size, lines, length):
        chance = random.Random(seed)
        for line in range(lines):
            # Most places hold a shape at first, so that few calls are refused for an empty one.
            calls = [drawn_put(chance, size, place) for place in (0, 1, 2, 3, 62, 63)]
            calls += [drawn_call(chance, size) for k in range(length)]
            answered = ask(*calls)
            model = Model()
            for call, answer in zip(calls, answered):
                self.assertEqual(answer, model.answer(call), (call, model.held))

    def test_tiny_coordinates(self):
        self.check_lines(1, 2, 60, 60)

    def test_small_coordinates(self):
        self.check_lines(2, 5, 60, 60)

    def test_middling_coordinates(self):
        self.check_lines(3, 30, 40, 60)

    def test_large_coordinates(self):
        self.check_lines(4, FAR, 40, 60)

    def test_dist_of_many_pairs(self):
        chance = random.Random(6)
        found = {"apart": 0, "together": 0}
        for k in range(1500):
            one = drawn_points(chance, chance.choice([3, 10, 100, FAR]))
            other = drawn_points(chance, chance.choice([3, 10, 100, FAR]))
            answered = ask(put(0, 0, flat(one)), put(1, 0, flat(other)), [12, 0, 1], [12, 1, 0])
            if answered[:2] == [[0], [0]]:
                self.assertEqual(answered[2:], [dist_by_fractions(one, other)] * 2, (one, other))
                found["apart" if answered[2][0] > 0 else "together"] += 1
        self.assertGreater(min(found.values()), 300)

    def test_polygons_on_a_tiny_grid(self):
        chance = random.Random(5)
        found = {0: 0, -7: 0}
        for k in range(6000):
            points = [(chance.randint(0, 3), chance.randint(0, 3)) for c in range(chance.randint(3, 7))]
            if chance.random() < 0.5:
                points = list(dict.fromkeys(points))
            if len(points) < 3:
                continue
            answer = ask(put(0, 0, flat(points)))[0]
            self.assertEqual(answer, [0 if simple_by_fractions(points) else -7], points)
            found[answer[0]] += 1
        self.assertGreater(min(found.values()), 500)


if __name__ == "__main__":
    unittest.main()
