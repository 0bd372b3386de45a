"""Rows side by side: as few rising or falling parts as can be, and what shows that it takes no fewer."""

from twistyard.rows import upside


def rising_parts(row):
    parts = []
    for place, number in enumerate(row):
        # As the first part that can takes the number, the part ahead of that one ends in a greater number:
        # going back so from the last part, numbers of all parts fall, and no two of them fit in one part.
        at = first_taker(row, parts, number)
        if at is None:
            parts.append((place,))
        else:
            parts[at] = parts[at] + (place,)
    return tuple(parts)


def first_taker(row, parts, number):
    """The index of the first part that goes on rising with this number, or None."""
    for index, part in enumerate(parts):
        if row[part[-1]] < number:
            return index
    return None


def longest_falling(row):
    # For each place the longest falling choice that ends there.
    choices = []
    for place, number in enumerate(row):
        greater = [choice for choice in choices if row[choice[-1]] > number]
        choices.append(max(greater, key=len, default=()) + (place,))
    return max(choices, key=len, default=())


def falling_parts(row):
    return rising_parts(upside(row))


def longest_rising(row):
    return longest_falling(upside(row))
