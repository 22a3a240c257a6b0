"""Boards of dots, each of which hangs at the wire of its row and at that of its column."""

from wiresindark.errors import BadBoard
from wiresindark.kinds import is_integer_pair

DOT = "o"
NO_DOT = "."
LONGEST = 10


def _is_row(value):
    if not isinstance(value, str) or not 1 <= len(value) <= LONGEST:
        return False
    return all([sign in (DOT, NO_DOT) for sign in value])


def _are_rows(value):
    """Whether any value has the form of rows, wherever their dots are."""
    if not isinstance(value, tuple) or not 1 <= len(value) <= LONGEST:
        return False
    # The lengths come last: only strings have one for sure.
    return all([_is_row(row) for row in value]) and all([len(row) == len(value[0]) for row in value])


def _turned(rows):
    return tuple(["".join([row[column] for row in rows]) for column in range(len(rows[0]))])


def _none_is_empty(rows):
    return all([DOT in row for row in rows])


def _dots_of(rows):
    width = len(rows[0])
    return tuple([(row, column) for row in range(len(rows)) for column in range(width) if rows[row][column] == DOT])


def _wires_of(rows):
    columns = [("column", number) for number in range(len(rows[0]))]
    return tuple(columns + [("row", number) for number in range(len(rows))])


class Board:
    """Rows of dots; each row and each column has at least one."""

    def __init__(self, rows):
        if not _are_rows(rows) or not _none_is_empty(rows) or not _none_is_empty(_turned(rows)):
            raise BadBoard(rows)
        self.rows = rows
        self.height = len(rows)
        self.width = len(rows[0])
        self.dots = _dots_of(rows)
        self.wires = _wires_of(rows)
        self.is_full = len(self.dots) == self.height * self.width

    def __contains__(self, x):
        # The kind is asked first, since (True, 0) would be equal to (1, 0).
        return is_integer_pair(x) and x in self.dots

    def __len__(self):
        return len(self.dots)

    def __invert__(self):
        return Board(_turned(self.rows))

    def __eq__(self, other):
        return isinstance(other, Board) and self.rows == other.rows
