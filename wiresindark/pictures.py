"""Pictures of lit dots, and dead wires."""

from wiresindark.ascending import in_both, in_either, in_just_one, in_one_alone, is_part
from wiresindark.errors import BadColumns, BadDots, BadRows, OtherBoard
from wiresindark.kinds import are_numbers, is_ascending, is_integer_pair, is_word_and_integer

LIT = "#"


def _need_same_board(one, other):
    if one.board != other.board:
        raise OtherBoard(other)


def _are_dots(board, value):
    if not isinstance(value, tuple):
        return False
    return all([dot in board for dot in value]) and is_ascending(value)


def _rows_of(board, dots):
    lit = {dot: True for dot in dots}
    rows = []
    for row in range(board.height):
        signs = [LIT if (row, column) in lit else board.rows[row][column] for column in range(board.width)]
        rows.append("".join(signs))
    return tuple(rows)


class Picture:
    """The dots of a board that are lit."""

    def __init__(self, board, dots=()):
        if not _are_dots(board, dots):
            raise BadDots(dots)
        self.board = board
        self.dots = dots
        self.rows = _rows_of(board, dots)

    def is_within(self, other):
        _need_same_board(self, other)
        return is_part(self.dots, other.dots)

    def __or__(self, other):
        _need_same_board(self, other)
        return Picture(self.board, in_either(self.dots, other.dots))

    def __and__(self, other):
        _need_same_board(self, other)
        return Picture(self.board, in_both(self.dots, other.dots))

    def __sub__(self, other):
        # The dots of a Dead are those that it meets, so that one rule serves
        # for what a picture has alone and for what is seen of it.
        _need_same_board(self, other)
        return Picture(self.board, in_one_alone(self.dots, other.dots))

    def __xor__(self, other):
        _need_same_board(self, other)
        return Picture(self.board, in_just_one(self.dots, other.dots))

    def __len__(self):
        return len(self.dots)

    def __contains__(self, x):
        # The kind is asked first, since (True, 0) would be equal to (1, 0).
        return is_integer_pair(x) and x in self.dots

    def __invert__(self):
        return Picture(~self.board, tuple(sorted([(column, row) for row, column in self.dots])))

    def __eq__(self, other):
        return isinstance(other, Picture) and self.board == other.board and self.dots == other.dots


class Dead:
    """Dead wires of a board, and the dots that they meet."""

    def __init__(self, board, rows=(), columns=()):
        if not are_numbers(rows, board.height):
            raise BadRows(rows)
        if not are_numbers(columns, board.width):
            raise BadColumns(columns)
        self.board = board
        self.rows = rows
        self.columns = columns
        self.wires = tuple([("column", number) for number in columns] + [("row", number) for number in rows])
        self.dots = tuple([dot for dot in board.dots if dot[0] in rows or dot[1] in columns])

    def is_within(self, other):
        _need_same_board(self, other)
        return is_part(self.wires, other.wires)

    def over(self, other):
        _need_same_board(self, other)
        return Dead(self.board, in_either(self.rows, other.rows), in_both(self.columns, other.columns))

    def under(self, other):
        _need_same_board(self, other)
        return Dead(self.board, in_both(self.rows, other.rows), in_either(self.columns, other.columns))

    def __or__(self, other):
        _need_same_board(self, other)
        return Dead(self.board, in_either(self.rows, other.rows), in_either(self.columns, other.columns))

    def __and__(self, other):
        _need_same_board(self, other)
        return Dead(self.board, in_both(self.rows, other.rows), in_both(self.columns, other.columns))

    def __sub__(self, other):
        _need_same_board(self, other)
        return Dead(self.board, in_one_alone(self.rows, other.rows), in_one_alone(self.columns, other.columns))

    def __xor__(self, other):
        _need_same_board(self, other)
        return Dead(self.board, in_just_one(self.rows, other.rows), in_just_one(self.columns, other.columns))

    def __len__(self):
        return len(self.wires)

    def __contains__(self, x):
        # The kind is asked first, since ("row", True) would be equal to ("row", 1).
        return is_word_and_integer(x) and x in self.wires

    def __invert__(self):
        return Dead(~self.board, self.columns, self.rows)

    def __eq__(self, other):
        return isinstance(other, Dead) and self.board == other.board and self.wires == other.wires


def _are_strings(value):
    return isinstance(value, tuple) and all([isinstance(row, str) for row in value])


def _lit_in(board, rows):
    """The dots that rows light, however long rows are."""
    return tuple([dot for dot in board.dots if dot[0] < len(rows) and rows[dot[0]][dot[1]:dot[1] + 1] == LIT])


def drawn(board, rows):
    """The picture of board that has these rows."""
    if not _are_strings(rows):
        raise BadRows(rows)
    picture = Picture(board, _lit_in(board, rows))
    # Whatever else is amiss with rows, the picture does not have it.
    if picture.rows != rows:
        raise BadRows(rows)
    return picture
