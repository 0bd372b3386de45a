"""Rows put together, and cut up into one and one as a tree tells, or the pattern that bars it."""

from twistyard.rows import flat, stands_at

TREE_BARS = ((1, 3, 0, 2), (2, 0, 3, 1))


def raised(row, more):
    return tuple([number + more for number in row])


def up(one, other):
    return one + raised(other, len(one))


def down(one, other):
    return raised(one, len(other)) + other


def row_of(tree):
    if tree[0] == "one":
        return (0,)
    first = row_of(tree[1])
    second = row_of(tree[2])
    return up(first, second) if tree[0] == "up" else down(first, second)


def tree_of(row):
    if len(row) == 1:
        return ("one",)
    # There is a tree of a row that is cut just if there is one of both parts, so the first cut will do.
    for size in range(1, len(row)):
        way = cut_behind(row, size)
        if way is not None:
            return tree_of_cut(way, row[:size], row[size:])
    return None


def cut_behind(row, size):
    """How so many first numbers are put together with the others: up, down, or None."""
    if max(row[:size]) < min(row[size:]):
        return "up"
    if min(row[:size]) > max(row[size:]):
        return "down"
    return None


def tree_of_cut(way, first_numbers, second_numbers):
    first = tree_of(flat(first_numbers))
    second = tree_of(flat(second_numbers))
    if first is None or second is None:
        return None
    return (way, first, second)


def bar_tree(row):
    for pattern in TREE_BARS:
        places = stands_at(row, pattern)
        if places is not None:
            return places
    return None
