"""What the tests share: all small rows, and the definitions of DOC.md taken word by word."""

from itertools import combinations, permutations


def rows_of(size):
    return list(permutations(range(size)))


def rows_up_to(size):
    return [row for length in range(size + 1) for row in rows_of(length)]


def some_long_rows():
    """Rows of 8 to 12 numbers: in order, falling, turned round, by steps, and mixed."""
    rows = []
    for size in range(8, 13):
        rising = tuple(range(size))
        rows.append(rising)
        rows.append(rising[::-1])
        rows.append(rising[1:] + rising[:1])
        rows.append(rising[-1:] + rising[:-1])
        rows.append(rising[::2] + rising[1::2])
        rows.append(rising[1::2] + rising[::2][::-1])
        rows.append(rising[::3] + rising[2::3] + rising[1::3])
    return rows


def ordered_alike(some, others):
    """[0.5]: of any two the first is less than the second just if it is so in the others."""
    pairs = combinations(range(len(others)), 2)
    return all((some[i] < some[j]) == (others[i] < others[j]) for i, j in pairs)


def all_places(row, pattern):
    """Every tuple of places at which the pattern stands, the least first."""
    return [
        places
        for places in combinations(range(len(row)), len(pattern))
        if ordered_alike([row[place] for place in places], pattern)
    ]
