"""Sets of wires as pairs of integers: the bits of the first are the rows, those of the second the columns."""

from wiresindark.pictures import Dead


def bits_of(numbers):
    bits = 0
    for number in numbers:
        bits = bits | 1 << number
    return bits


def numbers_of(bits):
    """The ascending tuple of the numbers whose bits are set."""
    return tuple([number for number in range(bits.bit_length()) if bits >> number & 1])


def size_of(wires):
    """How many wires a pair has."""
    rows, columns = wires
    return f"{rows:b}".count("1") + f"{columns:b}".count("1")


def all_wires(board):
    return (1 << board.height) - 1, (1 << board.width) - 1


def in_each(pairs):
    """The wires that are in each of one or more pairs."""
    rows, columns = pairs[0]
    for some_rows, some_columns in pairs:
        rows = rows & some_rows
        columns = columns & some_columns
    return rows, columns


def in_any(pairs):
    """The wires that are in at least one of the pairs."""
    rows, columns = 0, 0
    for some_rows, some_columns in pairs:
        rows = rows | some_rows
        columns = columns | some_columns
    return rows, columns


def without(wires, others):
    """The wires that are not among the others."""
    return wires[0] & ~others[0], wires[1] & ~others[1]


def dead_of(board, wires):
    return Dead(board, numbers_of(wires[0]), numbers_of(wires[1]))
