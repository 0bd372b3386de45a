"""A stack: moves, the ones that put a row in order, what bars it, and passes."""

from twistyard.rows import in_order, stands_at

STACK_BAR = (1, 2, 0)


def done_by(row, moves):
    stack = []
    told = []
    laid = 0
    for move in moves:
        if move == "in" and laid < len(row):
            stack.append(row[laid])
            laid = laid + 1
        elif move == "out" and stack:
            told.append(stack.pop())
        else:
            return None
    return tuple(told) if len(told) == len(row) else None


def pass_moves(row):
    """The moves of one pass."""
    stack = []
    moves = []
    for number in row:
        while stack and stack[-1] < number:
            stack.pop()
            moves.append("out")
        stack.append(number)
        moves.append("in")
    return tuple(moves + ["out"] * len(stack))


def stack_moves(row):
    # A pass tells a number only where a greater one would else be laid on it and come out ahead of it,
    # which no moves may allow: if any moves put the row in order, these do.
    moves = pass_moves(row)
    return moves if in_order(done_by(row, moves)) else None


def bar_stack(row):
    return stands_at(row, STACK_BAR)


def passed(row):
    return done_by(row, pass_moves(row))


def passes(row):
    current = row
    made = 0
    while not in_order(current):
        current = passed(current)
        made = made + 1
    return made
