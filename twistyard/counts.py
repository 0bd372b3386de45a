"""Counts: how many rows there are in which a pattern does not stand."""

from twistyard.rows import stands_at


def count_without(size, pattern):
    # No row has fewer than no numbers.
    return len(rows_without(size, pattern)) if size >= 0 else 0


def rows_without(size, pattern):
    rows = those_without([()], pattern)
    # A pattern that stands in a row stands there whatever greater number is put in,
    # so each row without it comes of one without it that is shorter by its greatest number.
    for number in range(size):
        longer = []
        for row in rows:
            longer.extend(rows_with(row, number))
        rows = those_without(longer, pattern)
    return rows


def those_without(rows, pattern):
    return [row for row in rows if stands_at(row, pattern) is None]


def rows_with(row, number):
    """The rows that come of putting the number in, once at each place."""
    return [row[:place] + (number,) + row[place:] for place in range(len(row) + 1)]
