"""What DOC.md promises over the whole program, of each function of the interface."""

import copy
import unittest

from tests.helper import all_trees, rows_up_to, scattered_rows, some_long_rows
from twistyard.counts import count_without
from twistyard.parts import falling_parts, longest_falling, longest_rising, rising_parts
from twistyard.rows import backward, flat, inverse, is_row, stands_at, upside
from twistyard.stacks import bar_stack, done_by, passed, passes, stack_moves
from twistyard.trees import bar_tree, down, row_of, tree_of, up

OF_A_ROW = (
    is_row, flat, backward, upside, inverse, stack_moves, bar_stack, passed, passes,
    rising_parts, longest_falling, falling_parts, longest_rising, bar_tree,
)
PATTERNS = ((0,), (1, 0), (1, 2, 0), (1, 3, 0, 2))


def questions():
    """Functions with what is handed in, all kinds of them, at the bounds and somewhat beyond."""
    asked = []
    for row in rows_up_to(5) + some_long_rows() + scattered_rows():
        asked += [(tell, (row,)) for tell in OF_A_ROW]
        asked += [(stands_at, (row, pattern)) for pattern in PATTERNS + ((),)]
        asked += [(put, (row, row[::-1])) for put in (up, down)]
        asked += [(done_by, (row, moves)) for moves in ((), ("in", "out") * len(row), ("out",))]
        if row:
            asked.append((tree_of, (row,)))
    asked += [(row_of, (tree,)) for ones in range(1, 6) for tree in all_trees(ones)]
    asked += [(count_without, (size, pattern)) for size in range(7) for pattern in PATTERNS]
    asked += [(is_row, (thing,)) for thing in ([], [1, [0]], ([0],), (True, 0), "0", None, True)]
    return asked


def kinds_in(thing):
    """Every kind of which the thing is, and of which something in it is."""
    kinds = {type(thing)}
    if isinstance(thing, (tuple, list)):
        for part in thing:
            kinds |= kinds_in(part)
    return kinds


class Whole(unittest.TestCase):
    def test_what_is_handed_in_is_not_changed(self):
        for tell, handed in questions():
            before = copy.deepcopy(handed)
            tell(*handed)
            self.assertEqual(handed, before, tell)

    def test_the_same_again(self):
        asked = questions()
        first = [tell(*handed) for tell, handed in asked]
        # The other way round, so that each is asked again behind other questions.
        again = [tell(*handed) for tell, handed in reversed(asked)]
        self.assertEqual(again[::-1], first)

    def test_what_is_told_is_not_changed_later(self):
        asked = questions()
        told = [tell(*handed) for tell, handed in asked]
        kept = copy.deepcopy(told)
        for tell, handed in asked:
            tell(*handed)
        self.assertEqual(told, kept)

    def test_tuples_texts_whole_numbers_and_none_alone(self):
        for tell, handed in questions():
            kinds = kinds_in(tell(*handed))
            allowed = {bool} if tell is is_row else {tuple, str, int, type(None)}
            self.assertLessEqual(kinds, allowed, (tell, handed))

    def test_the_empty_row_has_no_tree(self):
        self.assertIsNone(tree_of(()))
        self.assertIsNone(bar_tree(()))


if __name__ == "__main__":
    unittest.main()
