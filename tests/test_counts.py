import unittest

from tests.helper import all_places, rows_of, rows_up_to
from twistyard.counts import count_without
from twistyard.rows import stands_at


class CountWithout(unittest.TestCase):
    def check(self, size, pattern):
        expected = len([row for row in rows_of(size) if stands_at(row, pattern) is None])
        self.assertEqual(count_without(size, pattern), expected, (size, pattern))

    def test_kind(self):
        for size in range(5):
            for pattern in rows_up_to(3)[1:]:
                self.assertIs(type(count_without(size, pattern)), int)

    def test_by_stands_at_over_all_rows(self):
        for size in range(7):
            for pattern in rows_up_to(4)[1:]:
                self.check(size, pattern)

    def test_by_all_places_over_all_rows(self):
        for size in range(6):
            for pattern in rows_up_to(4)[1:]:
                expected = len([row for row in rows_of(size) if not all_places(row, pattern)])
                self.assertEqual(count_without(size, pattern), expected, (size, pattern))

    def test_patterns_of_one_and_two(self):
        self.assertEqual([count_without(size, (0,)) for size in range(7)], [1, 0, 0, 0, 0, 0, 0])
        for pattern in rows_of(2):
            self.assertEqual([count_without(size, pattern) for size in range(7)], [1] * 7)

    def test_patterns_of_three_are_alike(self):
        for pattern in rows_of(3):
            self.assertEqual([count_without(size, pattern) for size in range(7)], [1, 1, 2, 5, 14, 42, 132])

    def test_patterns_of_four_are_not_all_alike(self):
        self.assertEqual([count_without(size, (0, 1, 2, 3)) for size in range(7)], [1, 1, 2, 6, 23, 103, 513])
        self.assertEqual([count_without(size, (0, 2, 3, 1)) for size in range(7)], [1, 1, 2, 6, 23, 103, 512])

    def test_no_numbers(self):
        for pattern in rows_up_to(4)[1:]:
            self.assertEqual(count_without(0, pattern), 1)

    def test_a_size_less_than_the_length_of_the_pattern(self):
        for pattern in rows_up_to(4)[1:]:
            for size in range(len(pattern)):
                self.assertEqual(count_without(size, pattern), len(rows_of(size)))
            self.assertEqual(count_without(len(pattern), pattern), len(rows_of(len(pattern))) - 1)

    def test_somewhat_beyond_the_bounds(self):
        for pattern in rows_of(3):
            self.assertEqual(count_without(7, pattern), 429)
        self.assertEqual(count_without(5, (0, 1, 2, 3, 4)), 119)
        self.assertEqual(count_without(4, (0, 1, 2, 3, 4)), 24)
        self.assertEqual(count_without(-1, (0,)), 0)
        # The empty pattern stands in every row, at no places.
        self.assertEqual([count_without(size, ()) for size in range(4)], [0, 0, 0, 0])


if __name__ == "__main__":
    unittest.main()
