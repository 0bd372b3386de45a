"""Rows and patterns: what they are, where a pattern stands, and rows turned about."""

MOST_NUMBERS = 10


def is_whole(thing):
    # True and False are ints for Python, but no whole numbers here.
    return isinstance(thing, int) and not isinstance(thing, bool)


def is_row(thing):
    if not isinstance(thing, tuple) or len(thing) > MOST_NUMBERS:
        return False
    if not all([is_whole(part) for part in thing]):
        return False
    return sorted(thing) == list(range(len(thing)))


def in_order(row):
    return row == tuple(sorted(row))


def flat(numbers):
    ordered = sorted(numbers)
    return tuple([ordered.index(number) for number in numbers])


def stands_at(row, pattern):
    return first_places_from(row, pattern, ())


def first_places_from(row, pattern, places):
    """The least places that begin with these and at which the pattern stands, or None."""
    if len(places) == len(pattern):
        return places
    start = places[-1] + 1 if places else 0
    # Lesser places are tried first, so the first ones found are the least.
    for place in range(start, len(row)):
        if fits_behind(row, pattern, places, place):
            found = first_places_from(row, pattern, places + (place,))
            if found is not None:
                return found
    return None


def fits_behind(row, pattern, places, place):
    """Whether the number at this place is to those at the places ahead as it is in the pattern."""
    newest = pattern[len(places)]
    for step, earlier in enumerate(places):
        if (row[earlier] < row[place]) != (pattern[step] < newest):
            return False
    return True


def backward(row):
    return tuple(reversed(row))


def upside(row):
    return tuple([len(row) - 1 - number for number in row])


def inverse(row):
    return tuple([row.index(number) for number in range(len(row))])
