import unittest

from tests.helper import at_places, falls, rises, rows_of, rows_up_to, small_and_long_rows, some_places
from twistyard.parts import falling_parts, longest_falling, longest_rising, rising_parts

# Each kind of parts, the longest choice of the other kind, and the orders of both.
KINDS = (
    (rising_parts, longest_falling, rises, falls),
    (falling_parts, longest_rising, falls, rises),
)


def partitions(places):
    """Every way to share out the places, each into one part."""
    if not places:
        return [[]]
    shared = []
    for parts in partitions(places[:-1]):
        for at in range(len(parts)):
            shared.append(parts[:at] + [parts[at] + places[-1:]] + parts[at + 1:])
        shared.append(parts + [places[-1:]])
    return shared


class PlacesCase(unittest.TestCase):
    def check_places(self, row, places):
        self.assertIs(type(places), tuple)
        self.assertTrue(all(type(place) is int and 0 <= place < len(row) for place in places), places)
        self.assertTrue(rises(places), places)


class Parts(PlacesCase):
    def check_parts(self, row, parts, ordered):
        self.assertIs(type(parts), tuple)
        for part in parts:
            self.assertNotEqual(part, ())
            self.check_places(row, part)
            self.assertTrue(ordered(at_places(row, part)), (row, part))
        shared = [place for part in parts for place in part]
        self.assertEqual(sorted(shared), list(range(len(row))), (row, parts))

    def test_written_ones(self):
        for tell in (rising_parts, falling_parts):
            self.assertEqual(tell(()), ())
            self.assertEqual(tell((0,)), ((0,),))
        self.assertEqual(rising_parts((0, 1, 2)), ((0, 1, 2),))
        self.assertEqual(falling_parts((2, 1, 0)), ((0, 1, 2),))
        self.assertEqual(sorted(rising_parts((2, 1, 0))), [(0,), (1,), (2,)])
        self.assertEqual(sorted(falling_parts((0, 1, 2))), [(0,), (1,), (2,)])
        self.assertEqual(sorted(rising_parts((2, 3, 0, 1))), [(0, 1), (2, 3)])
        self.assertEqual(sorted(falling_parts((1, 0, 3, 2))), [(0, 1), (2, 3)])

    def test_each_place_in_one_part_on_which_the_numbers_are_ordered(self):
        for row in small_and_long_rows():
            for tell, longest, ordered, against in KINDS:
                self.check_parts(row, tell(row), ordered)

    def test_as_few_as_can_be(self):
        for row in rows_up_to(5):
            every = partitions(tuple(range(len(row))))
            for tell, longest, ordered, against in KINDS:
                fitting = [parts for parts in every if all(ordered(at_places(row, part)) for part in parts)]
                self.assertEqual(len(tell(row)), min(len(parts) for parts in fitting), row)


class Longest(PlacesCase):
    def test_written_ones(self):
        for tell in (longest_falling, longest_rising):
            self.assertEqual(tell(()), ())
            self.assertEqual(tell((0,)), (0,))
        self.assertEqual(longest_falling((3, 2, 1, 0)), (0, 1, 2, 3))
        self.assertEqual(longest_rising((0, 1, 2, 3)), (0, 1, 2, 3))
        self.assertEqual(longest_falling((3, 0, 2, 1)), (0, 2, 3))
        self.assertEqual(longest_rising((0, 3, 1, 2)), (0, 2, 3))
        self.assertEqual(len(longest_falling((0, 1, 2))), 1)
        self.assertEqual(len(longest_rising((2, 1, 0))), 1)

    def test_places_on_which_the_numbers_are_ordered(self):
        for row in small_and_long_rows():
            for parts, tell, ordered, against in KINDS:
                self.check_places(row, tell(row))
                self.assertTrue(against(at_places(row, tell(row))), row)

    def test_as_many_as_can_be(self):
        for row in rows_up_to(6) + rows_of(7)[::7]:
            every = some_places(row)
            for parts, tell, ordered, against in KINDS:
                most = max(len(places) for places in every if against(at_places(row, places)))
                self.assertEqual(len(tell(row)), most, row)


class Together(unittest.TestCase):
    def test_as_many_parts_as_the_longest_of_the_other_kind(self):
        # On no rising part stand two numbers of a falling choice: so neither could be bettered.
        for row in small_and_long_rows():
            for parts, longest, ordered, against in KINDS:
                self.assertEqual(len(parts(row)), len(longest(row)), row)

    def test_both_lengths_multiplied(self):
        for row in small_and_long_rows():
            self.assertGreaterEqual(len(longest_falling(row)) * len(longest_rising(row)), len(row), row)

    def test_both_lengths_multiplied_may_be_the_length(self):
        row = (2, 1, 0, 5, 4, 3, 8, 7, 6)
        self.assertEqual(len(longest_falling(row)), 3)
        self.assertEqual(len(longest_rising(row)), 3)


if __name__ == "__main__":
    unittest.main()
