"""The forms of the calls: how they lie in the one list, and the ranges of their numbers."""

# By a call's number: the lowest and the greatest value of each of its whole numbers.
NUMBERS = (
    ((1, 8),),
    ((0, 1000000000),),
    ((1, 8), (0, 1000000000)),
    ((1, 8), (1, 8), (0, 1000000000)),
    ((1, 8), (0, 1000000000)),
    (),
    (),
    (),
    (),
    (),
    (),
    ((1, 8),),
    (),
    (),
    (),
    (),
    ((1, 8), (1, 8)),
    ((0, 10000000000),),
    ((1, 8),),
    ((1, 8),),
    (),
)

# By the number of a call with a second row: how many numbers that may have, their lowest and greatest value.
ROWS = {
    1: (8, 0, 1000000000),
    6: (8, 0, 1000000000),
    13: (8, 1, 8),
    15: (64, 0, 1000000000),
}


class Call:
    """One call: its number, its whole numbers, its second row, and where the next call begins."""

    def __init__(self, number, numbers, row, end):
        self.number = number
        self.numbers = numbers
        self.row = row
        self.end = end


def read_call(calls, start):
    """The call that begins at this place of the list."""
    number = calls[start]
    end = start + 1 + len(NUMBERS[number])
    numbers = calls[start + 1:end]
    if number not in ROWS:
        return Call(number, numbers, [], end)
    row_start = end + 1
    row_end = row_start + calls[end]
    return Call(number, numbers, calls[row_start:row_end], row_end)


def numbers_within(numbers, ranges):
    """Whether each number is within its range."""
    for value, bounds in zip(numbers, ranges):
        if value < bounds[0] or value > bounds[1]:
            return False
    return True


def row_within(row, most, low, high):
    """Whether the row isn't too long and each of its numbers is within the range."""
    if len(row) > most:
        return False
    for value in row:
        if value < low or value > high:
            return False
    return True


def call_within(call):
    """Whether all arguments of the call are within the ranges told for them."""
    if not numbers_within(call.numbers, NUMBERS[call.number]):
        return False
    if call.number not in ROWS:
        return True
    bounds = ROWS[call.number]
    return row_within(call.row, bounds[0], bounds[1], bounds[2])
