import unittest
from itertools import product

from tests.helper import all_places, ordered_alike, rows_of, rows_up_to, some_long_rows
from twistyard.stacks import bar_stack, done_by, passed, passes, stack_moves

IN, OUT = "in", "out"


def all_moves(length):
    return list(product((IN, OUT), repeat=length))


def passed_by_parts(row):
    """One pass told otherwise: what is ahead of the greatest, what is behind it, then itself."""
    if not row:
        return ()
    place = row.index(max(row))
    return passed_by_parts(row[:place]) + passed_by_parts(row[place + 1:]) + (row[place],)


def rising(row):
    return tuple(range(len(row)))


class DoneBy(unittest.TestCase):
    def test_orders(self):
        row = (2, 0, 1)
        self.assertEqual(done_by(row, (IN, OUT, IN, OUT, IN, OUT)), (2, 0, 1))
        self.assertEqual(done_by(row, (IN, IN, IN, OUT, OUT, OUT)), (1, 0, 2))
        self.assertEqual(done_by(row, (IN, IN, OUT, IN, OUT, OUT)), (0, 1, 2))
        self.assertEqual(done_by(row, (IN, IN, OUT, OUT, IN, OUT)), (0, 2, 1))
        self.assertEqual(done_by(row, (IN, OUT, IN, IN, OUT, OUT)), (2, 1, 0))
        self.assertEqual(done_by((0,), (IN, OUT)), (0,))

    def test_no_moves(self):
        self.assertEqual(done_by((), ()), ())
        self.assertIsNone(done_by((0,), ()))
        self.assertIsNone(done_by((1, 0), ()))

    def test_out_of_an_empty_stack(self):
        self.assertIsNone(done_by((), (OUT,)))
        self.assertIsNone(done_by((0,), (OUT, IN)))
        self.assertIsNone(done_by((0,), (OUT, IN, OUT)))
        self.assertIsNone(done_by((0,), (IN, OUT, OUT)))
        self.assertIsNone(done_by((1, 0), (IN, OUT, OUT, IN, OUT)))

    def test_in_with_no_number_left(self):
        self.assertIsNone(done_by((), (IN,)))
        self.assertIsNone(done_by((), (IN, OUT)))
        self.assertIsNone(done_by((0,), (IN, IN, OUT)))
        self.assertIsNone(done_by((0,), (IN, OUT, IN)))
        self.assertIsNone(done_by((1, 0), (IN, IN, IN, OUT, OUT)))

    def test_a_number_not_told(self):
        self.assertIsNone(done_by((0,), (IN,)))
        self.assertIsNone(done_by((1, 0), (IN, OUT)))
        self.assertIsNone(done_by((1, 0), (IN, IN, OUT)))
        self.assertIsNone(done_by((1, 0), (IN, OUT, IN)))

    def test_all_moves_of_small_rows(self):
        # So many moves of each size can be done in full, each telling another order.
        orders = (1, 1, 2, 5, 14)
        for size in range(5):
            row = tuple(range(size))
            for length in range(2 * size + 3):
                told = [done_by(row, moves) for moves in all_moves(length)]
                told = [numbers for numbers in told if numbers is not None]
                expected = orders[size] if length == 2 * size else 0
                self.assertEqual(len(told), expected, (size, length))
                self.assertEqual(len(set(told)), expected)
                for numbers in told:
                    self.assertIs(type(numbers), tuple)
                    self.assertEqual(sorted(numbers), list(row))
                    self.assertEqual(all_places(numbers, (2, 0, 1)), [])


class InOrderOrBarred(unittest.TestCase):
    def check(self, row):
        moves = stack_moves(row)
        places = bar_stack(row)
        self.assertEqual(moves is None, places is not None, row)
        if moves is not None:
            self.assertIs(type(moves), tuple)
            self.assertEqual(done_by(row, moves), rising(row), row)
        else:
            self.check_bar(row, places)

    def check_bar(self, row, places):
        self.assertIs(type(places), tuple)
        self.assertEqual(len(places), 3)
        self.assertTrue(0 <= places[0] < places[1] < places[2] < len(row), (row, places))
        self.assertTrue(ordered_alike([row[place] for place in places], (1, 2, 0)), (row, places))

    def test_written_ones(self):
        self.assertEqual(stack_moves(()), ())
        self.assertIsNone(bar_stack(()))
        self.assertEqual(stack_moves((0,)), (IN, OUT))
        self.assertEqual(stack_moves((1, 0)), (IN, IN, OUT, OUT))
        self.assertIsNone(stack_moves((1, 2, 0)))
        self.assertEqual(bar_stack((1, 2, 0)), (0, 1, 2))
        self.assertEqual(bar_stack((3, 1, 2, 0)), (1, 2, 3))
        self.assertIsNone(bar_stack((2, 0, 1)))

    def test_all_rows_up_to_seven(self):
        for row in rows_up_to(7):
            self.check(row)

    def test_long_rows(self):
        for row in some_long_rows():
            self.check(row)

    def test_moves_are_told_just_if_there_are_any(self):
        for size in range(5):
            every = all_moves(2 * size)
            for row in rows_of(size):
                can_be = any(done_by(row, moves) == rising(row) for moves in every)
                self.assertEqual(stack_moves(row) is not None, can_be, row)

    def test_bars_are_told_just_if_there_are_any(self):
        for row in rows_up_to(6):
            self.assertEqual(bar_stack(row) is not None, all_places(row, (1, 2, 0)) != [], row)


class Passes(unittest.TestCase):
    def test_written_ones(self):
        self.assertEqual(passed(()), ())
        self.assertEqual(passed((0,)), (0,))
        self.assertEqual(passed((1, 0)), (0, 1))
        self.assertEqual(passed((1, 2, 0)), (1, 0, 2))
        self.assertEqual(passed((2, 0, 1)), (0, 1, 2))
        self.assertEqual(passed((3, 1, 4, 2, 0)), (1, 3, 0, 2, 4))
        for row, number in (((), 0), ((0,), 0), ((0, 1), 0), ((1, 0), 1), ((1, 2, 0), 2), ((2, 0, 1), 1)):
            self.assertEqual(passes(row), number)

    def test_one_pass(self):
        for row in rows_up_to(7) + some_long_rows():
            self.assertEqual(passed(row), passed_by_parts(row), row)

    def test_the_greatest_comes_last(self):
        for row in rows_up_to(7)[1:]:
            self.assertEqual(passed(row)[-1], len(row) - 1, row)

    def test_one_pass_does_just_if_any_way_does(self):
        for row in rows_up_to(7) + some_long_rows():
            self.assertEqual(passed(row) == rising(row), stack_moves(row) is not None, row)
            self.assertEqual(passes(row) <= 1, stack_moves(row) is not None, row)

    def test_the_least_number_of_passes(self):
        for row in rows_up_to(7) + some_long_rows():
            number = passes(row)
            self.assertIs(type(number), int)
            current = row
            for _ in range(number):
                self.assertNotEqual(current, rising(row), row)
                current = passed_by_parts(current)
            self.assertEqual(current, rising(row), row)

    def test_none_for_a_row_in_order_and_fewer_than_numbers(self):
        for row in rows_up_to(7)[1:]:
            self.assertEqual(passes(row) == 0, row == rising(row), row)
            self.assertLess(passes(row), len(row))

    def test_as_many_as_numbers_less_one_may_be_needed(self):
        for size in range(1, 13):
            self.assertEqual(passes(tuple(range(1, size)) + (0,)), size - 1)


class SameAgain(unittest.TestCase):
    def test_same_again_and_nothing_changed(self):
        moves = (IN, IN, OUT, OUT)
        for row in rows_up_to(5):
            kept = tuple(list(row))
            for ask in (stack_moves, bar_stack, passed, passes, lambda r: done_by(r, moves)):
                first = ask(row)
                ask(row[::-1])
                self.assertEqual(ask(row), first)
            self.assertEqual(row, kept)
        self.assertEqual(moves, (IN, IN, OUT, OUT))


if __name__ == "__main__":
    unittest.main()
