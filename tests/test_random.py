"""Lines of calls drawn by chance (the same ones each time), against a sheet that is reckoned in another way."""

import math
import random
import unittest

from lines import (FAR, HUGE, ask, cross, dist_by_fractions, flat, form_by_trial, minus, pairs, put, segments,
                   simple_by_fractions)

# How many whole numbers each call has, put's row left out.
LENGTHS = {0: 2, 1: 1, 2: 2, 3: 3, 4: 4, 5: 2, 6: 2, 7: 1, 8: 1, 9: 1, 10: 1, 11: 1, 12: 2}


class Model:
    """A sheet: a dict of places to (r, points in their form)."""

    def __init__(self):
        self.held = {}

    def answer(self, call):
        number, given = call[0], call[1:]
        told = given[:2] if number in (2, 12) else given[:1]
        if any(place not in range(64) for place in told):
            return [-1]
        looked_at = {0: [], 1: [], 2: told[:1]}.get(number, told)
        if any(place not in self.held for place in looked_at):
            return [-2]
        return getattr(self, f"call{number}")(*given)

    def keep(self, place, r, points):
        if any(not -FAR <= number <= FAR for number in flat(points)):
            return [-6]
        if len(points) == 2 and points[0] == points[1] or len(points) > 2 and not simple_by_fractions(points):
            return [-7]
        self.held[place] = (r, form_by_trial(points))
        return [0]

    def call0(self, place, r, count, *numbers):
        if r not in range(FAR + 1):
            return [-4]
        if count not in range(2, 65, 2):
            return [-5]
        return self.keep(place, r, pairs(numbers))

    def call1(self, place):
        return [0 if self.held.pop(place, None) is None else 1]

    def call2(self, source, to):
        self.held[to] = self.held[source]
        return [0]

    def call3(self, place, dx, dy):
        r, points = self.held[place]
        return self.keep(place, r, [(x + dx, y + dy) for x, y in points])

    def call4(self, place, k, cx, cy):
        r, points = self.held[place]
        across, up = {0: (1, 0), 1: (0, 1), 2: (-1, 0), 3: (0, -1)}[k % 4]
        away = [minus(p, (cx, cy)) for p in points]
        return self.keep(place, r, [(cx + x * across - y * up, cy + x * up + y * across) for x, y in away])

    def call5(self, place, cx):
        r, points = self.held[place]
        return self.keep(place, r, [(cx + (cx - x), y) for x, y in points])

    def call6(self, place, d):
        r, points = self.held[place]
        if r + d not in range(FAR + 1):
            return [-4]
        self.held[place] = (r + d, points)
        return [0]

    def call7(self, place):
        r, points = self.held[place]
        if len(points) > 2:
            sides = segments(points)
            points = [b for (a, b), (b, c) in zip(sides[-1:] + sides, sides) if cross(minus(b, a), minus(c, b)) != 0]
        self.held[place] = (r, points)
        return [len(points)]

    def call8(self, place):
        r, points = self.held[place]
        return [r] + flat(points)

    def call9(self, place):
        r, points = self.held[place]
        xs, ys = sorted(x for x, y in points), sorted(y for x, y in points)
        return [0, xs[0] - r, ys[0] - r, xs[-1] + r, ys[-1] + r]

    def call10(self, place):
        points = self.held[place][1]
        if len(points) < 3:
            return [0]
        return [sum((a[0] + b[0]) * (b[1] - a[1]) for a, b in segments(points))]

    def call11(self, place):
        points = self.held[place][1]
        if len(points) < 3:
            return [1]
        return [int(all(cross(minus(b, a), minus(p, a)) >= 0 for a, b in segments(points) for p in points))]

    def call12(self, i, j):
        return dist_by_fractions(self.held[i][1], self.held[j][1])


def drawn_points(chance, size):
    """Points of a skeleton, or nearly of one."""
    count = chance.choice([1, 2, 3, 3, 4, 4, 5, 6, 8, 12])
    points = [(chance.randint(-size, size), chance.randint(-size, size)) for k in range(count)]
    if chance.random() < 0.8:
        middle = chance.choice(points)
        points = sorted(set(points), key=lambda p: math.atan2(p[1] - middle[1], p[0] - middle[0]))
        if chance.random() < 0.5:
            points.reverse()
        k = chance.randrange(len(points))
        points = points[k:] + points[:k]
    return points


def drawn_number(chance, size):
    """A number for an argument that is no place."""
    pool = [0, 1, -1, 2, 3, 4, -size, size, chance.randint(-2 * size, 2 * size)]
    if chance.random() < 0.03:
        pool = [HUGE, -HUGE, FAR, -FAR, FAR + 1, -FAR - 1]
    return chance.choice(pool)


def drawn_place(chance):
    if chance.random() < 0.01:
        return chance.choice([-1, 64, HUGE, -HUGE])
    return chance.choice([0, 1, 2, 3, 62, 63])


def drawn_put(chance, size):
    r = chance.choice([0, 1, 5, FAR]) if chance.random() < 0.98 else drawn_number(chance, size)
    numbers = flat(drawn_points(chance, size))
    if chance.random() < 0.02:
        numbers.append(7)
    if chance.random() < 0.02:
        numbers[chance.randrange(len(numbers))] = drawn_number(chance, size)
    return put(drawn_place(chance), r, numbers)


def drawn_call(chance, size):
    number = chance.choice([0, 0, 0, 0, 1, 2, 3, 4, 5, 6, 7, 8, 8, 8, 9, 10, 11, 12, 12, 12])
    if number == 0:
        return drawn_put(chance, size)
    call = [number, drawn_place(chance)]
    while len(call) <= LENGTHS[number]:
        call.append(drawn_place(chance) if number in (2, 12) else drawn_number(chance, size))
    return call


class ByChance(unittest.TestCase):
    def check_lines(self, seed, size, lines, length):
        chance = random.Random(seed)
        for line in range(lines):
            calls = [drawn_call(chance, size) for k in range(length)]
            answered = ask(*calls)
            model = Model()
            for call, answer in zip(calls, answered):
                self.assertEqual(answer, model.answer(call), (call, model.held))

    def test_tiny_coordinates(self):
        self.check_lines(1, 2, 60, 60)

    def test_small_coordinates(self):
        self.check_lines(2, 5, 60, 60)

    def test_middling_coordinates(self):
        self.check_lines(3, 30, 40, 60)

    def test_large_coordinates(self):
        self.check_lines(4, FAR, 40, 60)

    def test_dist_of_many_pairs(self):
        chance = random.Random(6)
        found = {"apart": 0, "together": 0}
        for k in range(1500):
            one = drawn_points(chance, chance.choice([3, 10, 100, FAR]))
            other = drawn_points(chance, chance.choice([3, 10, 100, FAR]))
            answered = ask(put(0, 0, flat(one)), put(1, 0, flat(other)), [12, 0, 1], [12, 1, 0])
            if answered[:2] == [[0], [0]]:
                self.assertEqual(answered[2:], [dist_by_fractions(one, other)] * 2, (one, other))
                found["apart" if answered[2][0] > 0 else "together"] += 1
        self.assertGreater(min(found.values()), 300)

    def test_polygons_on_a_tiny_grid(self):
        chance = random.Random(5)
        found = {0: 0, -7: 0}
        for k in range(6000):
            points = [(chance.randint(0, 3), chance.randint(0, 3)) for c in range(chance.randint(3, 7))]
            if chance.random() < 0.5:
                points = list(dict.fromkeys(points))
            if len(points) < 3:
                continue
            answer = ask(put(0, 0, flat(points)))[0]
            self.assertEqual(answer, [0 if simple_by_fractions(points) else -7], points)
            found[answer[0]] += 1
        self.assertGreater(min(found.values()), 500)


if __name__ == "__main__":
    unittest.main()
