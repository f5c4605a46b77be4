"""How calls and answers lie in their lists, and what a call of answers leaves alone."""

import ast
import builtins
import contextlib
import io
import pathlib
import unittest
from unittest import mock

import shapesheet.desk
from shapesheet.desk import answers

from lines import (BAR, FAR, NOTCH, SPOT, SQUARE, apart, area, ask, box, clear, close, convex, copy, cover, dist, far,
                   filled, flip, grow, hull, inside, joined, near, point, put, shape, shift, summed, tidy, touch,
                   triangles, turn, whole_sheet)

EACH_CALL = [put(0, 3, SQUARE), put(1, 0, SPOT), copy(0, 2), shift(2, 10, -1), turn(2, 1, 0, 0), flip(2, 5),
             grow(2, 4), tidy(2), shape(2), box(2), area(2), convex(2), dist(0, 2), clear(1), clear(1), shape(1),
             far(0, 2), touch(0, 2), apart(0, 2, 1), point(0, 7, 2), hull(3, [2, 0, 2]), shape(3), inside(1, 3, 1),
             inside(0, 3, 1), summed(3, 0, 4), shape(4), near(0), close(1), close(5), cover([]), cover([0]),
             triangles(3), filled()]


class Lists(unittest.TestCase):
    def test_each_call_as_it_lies_in_the_list(self):
        self.assertEqual(answers([0, 5, 7, 2, -3, 4]), [1, 0])
        self.assertEqual(answers([0, 5, 7, 2, -3, 4, 8, 5]), [1, 0, 3, 7, -3, 4])
        self.assertEqual(answers([1, 5]), [1, 0])
        self.assertEqual(answers([0, 5, 7, 2, -3, 4, 1, 5, 8, 5]), [1, 0, 1, 1, 1, -2])
        self.assertEqual(answers([0, 5, 7, 2, -3, 4, 2, 5, 6, 8, 6]), [1, 0, 1, 0, 3, 7, -3, 4])
        self.assertEqual(answers([0, 5, 7, 2, -3, 4, 3, 5, 1, 2, 8, 5]), [1, 0, 1, 0, 3, 7, -2, 6])
        self.assertEqual(answers([0, 5, 7, 2, -3, 4, 4, 5, 1, 1, 2, 8, 5]), [1, 0, 1, 0, 3, 7, -1, -2])
        self.assertEqual(answers([0, 5, 7, 2, -3, 4, 5, 5, 1, 8, 5]), [1, 0, 1, 0, 3, 7, 5, 4])
        self.assertEqual(answers([0, 5, 7, 2, -3, 4, 6, 5, -2, 8, 5]), [1, 0, 1, 0, 3, 5, -3, 4])
        self.assertEqual(answers([0, 5, 7, 2, -3, 4, 7, 5]), [1, 0, 1, 1])
        self.assertEqual(answers([0, 5, 7, 2, -3, 4, 9, 5]), [1, 0, 5, 0, -10, -3, 4, 11])
        self.assertEqual(answers([0, 5, 7, 2, -3, 4, 10, 5]), [1, 0, 1, 0])
        self.assertEqual(answers([0, 5, 7, 2, -3, 4, 11, 5]), [1, 0, 1, 1])
        self.assertEqual(answers([0, 5, 7, 2, -3, 4, 0, 6, 0, 2, 0, 0, 12, 5, 6]), [1, 0, 1, 0, 2, 25, 1])

    def test_each_call_of_relations_as_it_lies_in_the_list(self):
        start = [0, 5, 1, 2, -3, 4, 0, 6, 0, 8, 0, 0, 9, 0, 9, 9, 0, 9]
        for call, answer in (([13, 5, 6], [1, 169]), ([14, 5, 6], [1, 0]), ([15, 5, 6, 2], [1, 1]),
                             ([16, 5, -3, 5], [1, 1]), ([17, 5, 6, 1], [1, 0]), ([18, 7, 2, 5, 6], [1, 5]),
                             ([18, 7, 1, 5], [1, 1]), ([18, 7, 0], [1, -5]), ([19, 5, 6, 7], [1, 4]),
                             ([20, 5], [3, 6, 9, 1]), ([21, 3], [3, 1, 5, 6]), ([21, 2], [1, 0]), ([22, 0], [1, 0]),
                             ([22, 1, 6], [1, 81]), ([22, 2, 6, 6], [1, 81]), ([23, 6], [7, 2, 3, 0, 1, 1, 2, 3]),
                             ([24], [3, 2, 5, 6])):
            self.assertEqual(answers(start + call), [1, 0, 1, 0] + answer, call)
            # The call behind it begins where it ends.
            self.assertEqual(answers(start + call + [8, 5] + call)[:-len(answer)],
                             [1, 0, 1, 0] + answer + [3, 1, -3, 4], call)
        self.assertEqual(answers(start + [18, 7, 2, 5, 6, 8, 7])[4:], [1, 5, 11, 0, 0, 0, 9, 0, 9, 9, 0, 9, -3, 4])
        self.assertEqual(answers(start + [19, 5, 6, 7, 8, 7])[4:], [1, 4, 9, 1, -3, 4, 6, 4, 6, 13, -3, 13])

    def test_an_empty_row_and_the_call_behind_it(self):
        self.assertEqual(answers([0, 5, 7, 0, 1, 5]), [1, -5, 1, 0])
        self.assertEqual(answers([18, 5, 0, 1, 5]), [1, -5, 1, 0])
        self.assertEqual(answers([22, 0, 1, 5]), [1, 0, 1, 0])
        self.assertEqual(answers([24, 24, 22, 0, 24]), [1, 0, 1, 0, 1, 0, 1, 0])

    def test_rows_of_a_hundred_numbers(self):
        start = put(0, 0, SQUARE)
        self.assertEqual(answers(start + hull(1, [0] * 100) + cover([1, 0] * 50) + filled()),
                         [1, 0, 1, 4, 1, 16, 3, 2, 0, 1])
        self.assertEqual(answers(hull(1, list(range(100))) + cover(list(range(100))) + filled()), [1, -1, 1, -1, 1, 0])

    def test_refused_calls_are_passed_over_whole(self):
        row = list(range(100))
        self.assertEqual(answers(put(64, -1, row) + put(1, 0, SPOT) + shape(1)), [1, -1, 1, 0, 3, 0, 1, 2])
        self.assertEqual(answers(put(1, 0, row) + put(1, 0, row[:65]) + shape(1)), [1, -5, 1, -5, 1, -2])
        self.assertEqual(answers(turn(1, 2, 3, 4) + dist(5, 6) + clear(9)), [1, -2, 1, -2, 1, 0])

    def test_several_calls_on_one_list(self):
        self.assertEqual(ask(*EACH_CALL), [
            [0], [0], [0], [0], [0], [0], [0], [4],
            [7, 9, 10, 13, 10, 13, 14, 9, 14],
            [0, 2, 3, 20, 21], [32], [1], [61, 1], [1], [0], [-2],
            [365], [1], [0], [1], [6], [0, 0, 0, 4, 0, 13, 10, 13, 14, 9, 14, 0, 4], [-2],
            [0], [6], [3, 0, 0, 8, 0, 17, 10, 17, 18, 9, 18, 0, 8], [3, 0, 1], [6, 0, 2, 0, 3, 0, 4, 2, 3, 2, 4, 3, 4],
            [6, 0, 2, 0, 3, 0, 4, 2, 3, 2, 4, 3, 4], [0], [-3], [4, 5, 0, 1, 5, 1, 2, 5, 2, 3, 3, 4, 5],
            [4, 0, 2, 3, 4]])

    def test_two_hundred_calls(self):
        calls = [put(k % 64, k, [k, -k]) for k in range(100)] + [shape(k % 64) for k in range(36, 136)]
        held = {k % 64: k for k in range(100)}
        expected = [[0]] * 100 + [[held[k % 64], held[k % 64], -held[k % 64]] for k in range(36, 136)]
        self.assertEqual(ask(*calls), expected)

    def test_the_longest_list(self):
        calls = [put(k % 64, 1, list(range(100))) for k in range(163)]
        self.assertLessEqual(len(joined(calls)), 17000)
        self.assertEqual(answers(joined(calls)), [1, -5] * 163)
        calls = [put(0, 0, SQUARE)] + [hull(k % 64, [0] * 100) for k in range(80)] + [cover([0] * 100)] * 84
        self.assertLessEqual(len(joined(calls)), 17000)
        self.assertEqual(answers(joined(calls)), [1, 0] + [1, 4] * 80 + [1, 16] * 84)


class NothingKept(unittest.TestCase):
    def test_a_new_sheet_with_each_list(self):
        self.assertEqual(ask(*whole_sheet()), [[-2]] * 64)
        ask(*[put(place, 1, SQUARE) for place in range(64)])
        self.assertEqual(ask(*whole_sheet()), [[-2]] * 64)

    def test_a_second_time_answers_as_the_first(self):
        calls = joined(EACH_CALL)
        first = answers(calls)
        kept = list(first)
        self.assertEqual(answers(calls), kept)
        # What was given back is the caller's own.
        first.append(5)
        first[0] = 99
        self.assertEqual(answers(calls), kept)

    def test_what_is_handed_in_is_the_same_after(self):
        for calls in (joined(EACH_CALL), put(0, 0, [0, 0, 0, 4, 4, 4, 4, 0]) + flip(0, 1) + shape(0),
                      put(0, 0, []) + put(0, 0, [1]), put(0, 0, NOTCH) + turn(0, 3, 1, 1) + tidy(0),
                      put(9, 0, SQUARE) + hull(9, [9, 9, 9]) + cover([9, 9]) + summed(9, 9, 9) + triangles(9),
                      hull(1, []) + cover([3, 2, 1]) + hull(64, [3, 2, 1])):
            before = list(calls)
            answers(calls)
            self.assertEqual(calls, before)

    def test_what_is_handed_in_is_not_changed_for_a_while_either(self):
        class Watched(list):
            def refuse(self, *given):
                raise AssertionError("the list that is handed in is changed")

            append = extend = insert = pop = remove = clear = sort = reverse = refuse
            __setitem__ = __delitem__ = __iadd__ = __imul__ = refuse

        calls = joined(EACH_CALL)
        self.assertEqual(answers(Watched(calls)), answers(calls))

    def test_whole_numbers_in_a_list(self):
        answered = answers(joined(EACH_CALL) + convex(0) + clear(63) + touch(0, 2) + apart(0, 2, 1) + inside(0, 2, 1)
                           + point(0, 0, 0) + close(1))
        self.assertIs(type(answered), list)
        self.assertEqual({type(number) for number in answered}, {int})

    def test_nothing_is_printed_read_or_imported(self):
        calls = joined(EACH_CALL)
        expected = answers(calls)
        shown = io.StringIO()

        def refuse(*given, **named):
            raise AssertionError(f"asked for {given}")

        with contextlib.redirect_stdout(shown), contextlib.redirect_stderr(shown), \
                mock.patch.object(builtins, "open", refuse), mock.patch.object(builtins, "input", refuse), \
                mock.patch.object(builtins, "__import__", refuse):
            answered = answers(calls)
        self.assertEqual(answered, expected)
        self.assertEqual(shown.getvalue(), "")

    def test_the_example_of_the_readme(self):
        readme = (pathlib.Path(__file__).resolve().parent.parent / "README.md").read_text(encoding="utf-8")
        example = readme.split("```python\n")[1].split("```")[0]
        given, answered = example.split("answers(")[1].rsplit(")", 1)
        self.assertEqual(answers(ast.literal_eval(given)), ast.literal_eval(answered.replace("#", "").strip()))

    def test_the_name_of_the_interface(self):
        self.assertEqual(shapesheet.desk.answers(calls=put(0, FAR, BAR) + shape(0)), [1, 0, 5, FAR] + BAR)


class UnchangedByAsking(unittest.TestCase):
    def test_calls_that_only_ask_change_nothing(self):
        flat_corner = [0, 0, 2, 0, 4, 0, 4, 4]
        start = [put(0, 3, NOTCH), put(1, 5, flat_corner), put(2, 7, BAR), put(3, 0, SPOT)]
        asking = [call for k in range(4) for call in (shape(k), box(k), area(k), convex(k), dist(k, 0), dist(1, k),
                                                      far(k, 0), touch(k, 1), apart(k, 2, 3), point(k, 1, 1),
                                                      inside(k, 4, 1), near(k), triangles(k), cover([k]),
                                                      cover([4, k]))]
        asking += [close(1), close(FAR), cover([4]), filled()]
        start.append(put(4, 0, SQUARE))
        before = ask(*start, *whole_sheet())[len(start):]
        after = ask(*start, *asking, *whole_sheet())[len(start) + len(asking):]
        self.assertEqual(before, after)
        self.assertEqual(before[1], [5] + flat_corner)


if __name__ == "__main__":
    unittest.main()
