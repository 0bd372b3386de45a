import unittest

from tests.helper import (
    all_places, all_trees, at_places, ordered_alike, rises, rows_of, rows_up_to, scattered_rows,
    small_and_long_rows, some_long_rows,
)
from twistyard.parts import falling_parts, rising_parts
from twistyard.rows import is_row
from twistyard.stacks import stack_moves
from twistyard.trees import bar_tree, down, row_of, tree_of, up

ONE = ("one",)
BARS = ((1, 3, 0, 2), (2, 0, 3, 1))


def up_by_sentence(one, other):
    return tuple(list(one) + [len(one) + number for number in other])


def down_by_sentence(one, other):
    return tuple([len(other) + number for number in one] + list(other))


def ones_in(tree):
    return 1 if tree == ONE else ones_in(tree[1]) + ones_in(tree[2])


def leaf_pairs(tree, start=0):
    """Of any two ones of the tree, the sooner and the later, whether they are put together by up."""
    if tree == ONE:
        return {}
    middle = start + ones_in(tree[1])
    end = middle + ones_in(tree[2])
    pairs = {**leaf_pairs(tree[1], start), **leaf_pairs(tree[2], middle)}
    for first in range(start, middle):
        for second in range(middle, end):
            pairs[first, second] = tree[0] == "up"
    return pairs


def bent(ones, ways, to_left):
    """A tree bent to one side, by these ways in turn."""
    tree = ONE
    for step in range(ones - 1):
        way = ways[step % len(ways)]
        tree = (way, tree, ONE) if to_left else (way, ONE, tree)
    return tree


def halved(ones, ways):
    """A tree with as many ones on either side, or one more on the second."""
    if ones == 1:
        return ONE
    turned = ways[1:] + ways[:1]
    return (ways[0], halved(ones // 2, turned), halved(ones - ones // 2, turned))


def long_trees():
    """Trees of 7 to 12 ones: bent to one side, halved, and mixed of both."""
    trees = []
    for ones in range(7, 13):
        for ways in (("up",), ("down",), ("up", "down"), ("down", "up", "up")):
            trees.append(bent(ones, ways, True))
            trees.append(bent(ones, ways, False))
            trees.append(halved(ones, ways))
            trees.append((ways[0], bent(3, ways, False), halved(ones - 3, ways[::-1])))
            trees.append((ways[-1], halved(ones - 4, ways), bent(4, ways, True)))
    return trees


def trees():
    return [tree for ones in range(1, 7) for tree in all_trees(ones)] + long_trees()


def pairs_of_rows():
    """Pairs with together up to 10 numbers: all small ones, and some longer."""
    small = rows_up_to(4)
    pairs = [(one, other) for one in small for other in small]
    fives = rows_of(5)[::9]
    pairs += [(one, other) for one in fives for other in fives]
    for row in some_long_rows() + scattered_rows():
        if len(row) <= 10:
            room = 10 - len(row)
            for other in rows_of(room) + [()]:
                pairs += [(row, other), (other, row)]
    return pairs


class UpAndDown(unittest.TestCase):
    def test_written_ones(self):
        self.assertEqual(up((1, 0), (0, 1)), (1, 0, 2, 3))
        self.assertEqual(down((1, 0), (0, 1)), (3, 2, 0, 1))
        self.assertEqual(up((0,), (1, 2, 0)), (0, 2, 3, 1))
        self.assertEqual(down((0,), (1, 2, 0)), (3, 1, 2, 0))
        self.assertEqual(up((1, 2, 0), (0,)), (1, 2, 0, 3))
        self.assertEqual(down((1, 2, 0), (0,)), (2, 3, 1, 0))

    def test_an_empty_row_on_a_side(self):
        for put in (up, down):
            self.assertEqual(put((), ()), ())
            for row in rows_up_to(4) + some_long_rows():
                self.assertEqual(put(row, ()), row)
                self.assertEqual(put((), row), row)

    def test_by_their_sentences(self):
        for one, other in pairs_of_rows():
            for put, expected in ((up, up_by_sentence), (down, down_by_sentence)):
                row = put(one, other)
                self.assertEqual(row, expected(one, other))
                self.assertIs(type(row), tuple)
                self.assertIs(is_row(row), True, row)

    def test_somewhat_more_than_ten_numbers(self):
        for one in rows_of(6)[::50]:
            for other in rows_of(6)[::70]:
                self.assertEqual(up(one, other), up_by_sentence(one, other))
                self.assertEqual(down(one, other), down_by_sentence(one, other))


class RowOf(unittest.TestCase):
    def test_written_ones(self):
        self.assertEqual(row_of(ONE), (0,))
        self.assertEqual(row_of(("up", ONE, ONE)), (0, 1))
        self.assertEqual(row_of(("down", ONE, ONE)), (1, 0))
        self.assertEqual(row_of(("up", ONE, ("down", ONE, ONE))), (0, 2, 1))
        self.assertEqual(row_of(("up", ("down", ONE, ONE), ONE)), (1, 0, 2))
        self.assertEqual(row_of(("down", ("up", ONE, ONE), ("up", ONE, ONE))), (2, 3, 0, 1))

    def test_bent_to_one_side(self):
        for ones in range(1, 13):
            for to_left in (True, False):
                self.assertEqual(row_of(bent(ones, ("up",), to_left)), tuple(range(ones)))
                self.assertEqual(row_of(bent(ones, ("down",), to_left)), tuple(range(ones))[::-1])

    def test_any_two_ones_are_ordered_as_the_tree_puts_them_together(self):
        for tree in trees():
            row = row_of(tree)
            self.assertIs(type(row), tuple)
            self.assertEqual(len(row), ones_in(tree))
            self.assertIs(is_row(row), len(row) <= 10, tree)
            self.assertEqual(sorted(row), list(range(len(row))))
            for (first, second), rising in leaf_pairs(tree).items():
                self.assertEqual(row[first] < row[second], rising, tree)


class CutUpOrBarred(unittest.TestCase):
    def check_tree(self, tree):
        self.assertIs(type(tree), tuple)
        if tree != ONE:
            self.assertEqual(len(tree), 3)
            self.assertIn(tree[0], ("up", "down"))
            self.check_tree(tree[1])
            self.check_tree(tree[2])

    def check_bar(self, row, places):
        self.assertIs(type(places), tuple)
        self.assertEqual([type(place) for place in places], [int] * 4)
        self.assertTrue(rises(places) and 0 <= places[0] and places[3] < len(row), (row, places))
        numbers = at_places(row, places)
        self.assertTrue(any(ordered_alike(numbers, pattern) for pattern in BARS), (row, places))

    def test_written_ones(self):
        self.assertEqual(tree_of((0,)), ONE)
        self.assertEqual(tree_of((0, 1)), ("up", ONE, ONE))
        self.assertEqual(tree_of((1, 0)), ("down", ONE, ONE))
        self.assertEqual(tree_of((0, 2, 1)), ("up", ONE, ("down", ONE, ONE)))
        for row in BARS:
            self.assertIsNone(tree_of(row))
            self.assertEqual(bar_tree(row), (0, 1, 2, 3))
        self.assertEqual(bar_tree((0, 2, 4, 1, 3)), (1, 2, 3, 4))
        for row in rows_up_to(3):
            self.assertIsNone(bar_tree(row))

    def test_just_one_of_both(self):
        for row in small_and_long_rows()[1:]:
            tree = tree_of(row)
            places = bar_tree(row)
            self.assertEqual(tree is None, places is not None, row)
            if tree is None:
                self.check_bar(row, places)
            else:
                self.check_tree(tree)
                self.assertEqual(row_of(tree), row)

    def test_long_rows_of_both_kinds(self):
        for size in (8, 9, 10):
            told = [tree_of(row) is None for row in some_long_rows() + scattered_rows() if len(row) == size]
            self.assertEqual(sorted(set(told)), [False, True])

    def test_bars_are_told_just_if_there_are_any(self):
        for row in rows_up_to(6):
            barred = any(all_places(row, pattern) for pattern in BARS)
            self.assertEqual(bar_tree(row) is not None, barred, row)

    def test_trees_are_told_just_if_there_are_any(self):
        for ones in range(1, 7):
            cut_up = {row_of(tree) for tree in all_trees(ones)}
            self.assertEqual({row for row in rows_of(ones) if tree_of(row) is not None}, cut_up)

    def test_of_the_row_of_any_tree_there_is_a_tree(self):
        for tree in trees():
            row = row_of(tree)
            self.check_tree(tree_of(row))
            self.assertEqual(row_of(tree_of(row)), row)
            self.assertIsNone(bar_tree(row))


class AsOfTheirParts(unittest.TestCase):
    def test_a_stack(self):
        for one, other in pairs_of_rows():
            both = stack_moves(one) is not None and stack_moves(other) is not None
            self.assertEqual(stack_moves(up(one, other)) is not None, both, (one, other))

    def test_rising_and_falling_parts(self):
        for one, other in pairs_of_rows():
            risings = [len(rising_parts(one)), len(rising_parts(other))]
            fallings = [len(falling_parts(one)), len(falling_parts(other))]
            self.assertEqual(len(rising_parts(up(one, other))), max(risings), (one, other))
            self.assertEqual(len(rising_parts(down(one, other))), sum(risings), (one, other))
            self.assertEqual(len(falling_parts(up(one, other))), sum(fallings), (one, other))
            self.assertEqual(len(falling_parts(down(one, other))), max(fallings), (one, other))

    def test_a_tree(self):
        for one, other in pairs_of_rows():
            if one and other:
                both = tree_of(one) is not None and tree_of(other) is not None
                for put in (up, down):
                    self.assertEqual(tree_of(put(one, other)) is not None, both, (one, other))
                    self.assertEqual(bar_tree(put(one, other)) is None, both, (one, other))


if __name__ == "__main__":
    unittest.main()
