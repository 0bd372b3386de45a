"""What the tests share: all small rows, and the definitions of DOC.md taken word by word."""

from itertools import combinations, permutations


def rows_of(size):
    return list(permutations(range(size)))


def rows_up_to(size):
    return [row for length in range(size + 1) for row in rows_of(length)]


def some_long_rows():
    """Rows of 8 to 12 numbers: in order, falling, turned round, by steps, and mixed."""
    rows = []
    for size in range(8, 13):
        rising = tuple(range(size))
        rows.append(rising)
        rows.append(rising[::-1])
        rows.append(rising[1:] + rising[:1])
        rows.append(rising[-1:] + rising[:-1])
        rows.append(rising[::2] + rising[1::2])
        rows.append(rising[1::2] + rising[::2][::-1])
        rows.append(rising[::3] + rising[2::3] + rising[1::3])
    return rows


def scattered_rows():
    """Rows of 8 to 10 numbers with no plain order in them: the remainders of multiples, cut short."""
    rows = []
    for factor in range(2, 10):
        remainders = [factor * step % 11 for step in range(1, 11)]
        for size in (8, 9, 10):
            kept = remainders[:size]
            rows.append(tuple(sorted(kept).index(number) for number in kept))
    return rows


def small_and_long_rows():
    """Every row of up to 7 numbers, and some of 8 to 12."""
    return rows_up_to(7) + some_long_rows() + scattered_rows()


def at_places(row, places):
    return [row[place] for place in places]


def some_places(row):
    """Every choice of places in the row, fewer ones first."""
    return [places for size in range(len(row) + 1) for places in combinations(range(len(row)), size)]


def rises(numbers):
    return all(first < second for first, second in zip(numbers, numbers[1:]))


def falls(numbers):
    return all(first > second for first, second in zip(numbers, numbers[1:]))


def all_trees(ones):
    """Every tree with so many ones."""
    if ones == 1:
        return [("one",)]
    return [
        (way, first, second)
        for left in range(1, ones)
        for first in all_trees(left)
        for second in all_trees(ones - left)
        for way in ("up", "down")
    ]


def ordered_alike(some, others):
    """[0.5]: of any two the first is less than the second just if it is so in the others."""
    pairs = combinations(range(len(others)), 2)
    return all((some[i] < some[j]) == (others[i] < others[j]) for i, j in pairs)


def all_places(row, pattern):
    """Every tuple of places at which the pattern stands, the least first."""
    return [
        places
        for places in combinations(range(len(row)), len(pattern))
        if ordered_alike(at_places(row, places), pattern)
    ]
