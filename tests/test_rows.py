import copy
import unittest
from itertools import product

from tests.helper import all_places, ordered_alike, rows_of, rows_up_to, some_long_rows
from twistyard.rows import backward, flat, inverse, is_row, stands_at, upside

TURNS = (backward, upside, inverse)


def nested(depth, wrap, core):
    thing = core
    for _ in range(depth):
        thing = wrap(thing)
    return thing


class IsRow(unittest.TestCase):
    def test_every_small_row(self):
        for row in rows_up_to(7):
            self.assertIs(is_row(row), True, row)

    def test_long_rows_up_to_ten_numbers_only(self):
        for row in some_long_rows():
            self.assertIs(is_row(row), len(row) <= 10, row)

    def test_eleven_numbers_and_more(self):
        for size in (11, 12, 20, 1000):
            self.assertIs(is_row(tuple(range(size))), False, size)

    def test_all_small_tuples_of_numbers(self):
        for size in range(5):
            rows = set(rows_of(size))
            for numbers in product(range(-1, 6), repeat=size):
                self.assertIs(is_row(numbers), numbers in rows, numbers)

    def test_no_tuple(self):
        things = [[], [0], [0, 1], [(0, 1)], "", "0", "01", "in", None, True, False]
        things += [0, 1, -1, 10, 10**40]
        for thing in things:
            self.assertIs(is_row(thing), False, thing)

    def test_tuples_with_truths(self):
        for thing in [(False,), (True,), (0, True), (False, 1), (True, 0), (False, True), (2, True, 0)]:
            self.assertIs(is_row(thing), False, thing)

    def test_a_truth_or_a_number_is_told_apart_however_often_asked(self):
        for _ in range(3):
            self.assertIs(is_row((1, 0)), True)
            self.assertIs(is_row((True, False)), False)
            self.assertIs(is_row((1, False)), False)

    def test_tuples_with_other_things(self):
        for other in ("", "0", "1", None, [], [0], [1], (), (0,), (1,), ((0, 1),)):
            for thing in [(other,), (0, other), (other, 0), (0, other, 2), (other, other)]:
                self.assertIs(is_row(thing), False, thing)

    def test_numbers_twice_missing_below_and_too_large(self):
        things = [(0, 0), (1, 1), (0, 1, 1), (0, 0, 2), (1,), (0, 2), (1, 2, 3), (-1,), (-1, 0), (-2, -1)]
        things += [(0, -1), (10**30,), (0, 10**30), (1, 0, 2**64), (0, -(10**30)), tuple(range(1, 11))]
        things += [(0, 1, 2, 3, 4, 5, 6, 7, 8, 8), (0, 1, 2, 3, 4, 5, 6, 7, 8, 10), (0,) * 10]
        for thing in things:
            self.assertIs(is_row(thing), False, thing)

    def test_deep_things(self):
        wraps = (lambda x: (x,), lambda x: [x], lambda x: (0, x), lambda x: (x, [x]))
        for depth in (2, 3, 29, 30, 31, 35):
            for wrap in wraps:
                for core in (0, 1, (), (0, 1), [0, 1], "0", None, True):
                    self.assertIs(is_row(nested(depth, wrap, core)), False, (depth, core))

    def test_what_is_handed_in_is_not_changed(self):
        for thing in ([], [1, 0], [[1], (0, [2])], (1, [2, 0]), nested(30, lambda x: [x], 1)):
            before = copy.deepcopy(thing)
            self.assertIs(is_row(thing), False)
            self.assertEqual(thing, before)


class Flat(unittest.TestCase):
    def check(self, numbers):
        row = flat(numbers)
        self.assertIs(type(row), tuple)
        self.assertTrue(all(type(number) is int for number in row))
        self.assertEqual(sorted(row), list(range(len(numbers))))
        self.assertTrue(ordered_alike(numbers, row), numbers)
        self.assertEqual(flat(numbers), row)

    def test_written_ones(self):
        self.assertEqual(flat(()), ())
        for number in (0, 7, -7, 10**50, -(10**50)):
            self.assertEqual(flat((number,)), (0,))
        self.assertEqual(flat((30, -5, 7)), (2, 0, 1))
        self.assertEqual(flat((-1, -2, -3)), (2, 1, 0))
        self.assertEqual(flat((10**40, 10**40 - 1, -(10**40))), (2, 1, 0))
        self.assertEqual(flat((5, 9, 1, -3, 100, 0, 44, -80, 6, 7)), (4, 7, 3, 1, 9, 2, 8, 0, 5, 6))

    def test_a_row_is_its_own(self):
        for row in rows_up_to(6) + some_long_rows():
            self.assertEqual(flat(row), row)

    def test_stretched_and_moved_rows(self):
        for row in rows_up_to(5) + some_long_rows():
            for stretch, shift in ((1, 3), (7, -20), (10**30, -(10**31)), (1, 10**30)):
                self.check(tuple(stretch * number + shift for number in row))
            self.check(tuple((number - 4) ** 3 for number in row))
            self.assertEqual(flat(tuple(-number for number in row)), upside(row))


class StandsAt(unittest.TestCase):
    def check(self, row, pattern):
        every = all_places(row, pattern)
        expected = every[0] if every else None
        found = stands_at(row, pattern)
        self.assertEqual(found, expected, (row, pattern))
        if found is not None:
            self.assertIs(type(found), tuple)
            self.assertTrue(all(type(place) is int for place in found))

    def test_written_ones(self):
        self.assertEqual(stands_at((), ()), ())
        self.assertEqual(stands_at((1, 0), ()), ())
        self.assertEqual(stands_at((1, 0), (0,)), (0,))
        self.assertIsNone(stands_at((), (0,)))
        self.assertIsNone(stands_at((0, 1), (0, 1, 2)))
        self.assertIsNone(stands_at((0, 1, 2), (1, 0)))
        self.assertEqual(stands_at((0, 2, 3, 1), (1, 2, 0)), (1, 2, 3))

    def test_the_least_of_several(self):
        self.assertEqual(stands_at((0, 1, 2, 3), (0, 1)), (0, 1))
        self.assertEqual(stands_at((2, 3, 1, 0), (1, 0)), (0, 2))
        self.assertEqual(stands_at((1, 3, 0, 2), (1, 0)), (0, 2))
        # The least begin with place 0, though others end sooner.
        self.assertEqual(stands_at((1, 3, 2, 0), (1, 0)), (0, 3))

    def test_all_small_rows_and_patterns(self):
        patterns = rows_up_to(5)
        for row in rows_up_to(5):
            for pattern in patterns:
                self.check(row, pattern)

    def test_rows_of_six_and_seven(self):
        patterns = rows_up_to(3)
        for row in rows_of(6) + rows_of(7)[::5]:
            for pattern in patterns:
                self.check(row, pattern)

    def test_long_rows(self):
        long_rows = some_long_rows()
        for row in long_rows:
            for pattern in rows_up_to(4) + long_rows:
                self.check(row, pattern)


class Turns(unittest.TestCase):
    def test_written_ones(self):
        self.assertEqual(backward((0, 2, 3, 1)), (1, 3, 2, 0))
        self.assertEqual(upside((0, 2, 3, 1)), (3, 1, 0, 2))
        self.assertEqual(inverse((0, 2, 3, 1)), (0, 3, 1, 2))
        self.assertEqual(inverse((1, 2, 0)), (2, 0, 1))
        for turn in TURNS:
            self.assertEqual(turn(()), ())
            self.assertEqual(turn((0,)), (0,))

    def test_as_defined(self):
        for row in rows_up_to(6) + some_long_rows():
            last = len(row) - 1
            turned = (backward(row), upside(row), inverse(row))
            for place, number in enumerate(row):
                self.assertEqual(turned[0][last - place], number)
                self.assertEqual(turned[1][place], last - number)
                self.assertEqual(turned[2][number], place)
            for other in turned:
                self.assertIs(type(other), tuple)
                self.assertEqual(sorted(other), sorted(row))

    def test_twice_is_the_row(self):
        for row in rows_up_to(7) + some_long_rows():
            for turn in TURNS:
                self.assertEqual(turn(turn(row)), row)

    def test_a_pattern_stands_just_if_it_does_turned_about(self):
        patterns = rows_up_to(4)
        for turn in TURNS:
            turned_patterns = [turn(pattern) for pattern in patterns]
            for row in rows_up_to(5):
                turned_row = turn(row)
                for pattern, turned in zip(patterns, turned_patterns):
                    stands = stands_at(row, pattern) is not None
                    self.assertEqual(stands_at(turned_row, turned) is not None, stands, (turn, row, pattern))


class SameAgain(unittest.TestCase):
    def test_same_again_and_nothing_changed(self):
        for row in rows_up_to(5):
            kept = tuple(list(row))
            for ask in TURNS + (is_row, flat, lambda r: stands_at(r, (1, 0)), lambda r: stands_at((2, 0, 1), r)):
                first = ask(row)
                ask(row[::-1])
                self.assertEqual(ask(row), first)
            self.assertEqual(row, kept)


if __name__ == "__main__":
    unittest.main()
