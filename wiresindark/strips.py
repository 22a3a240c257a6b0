"""Running texts on full boards: whether two of them can look alike for ever."""

from math import lcm

from wiresindark.errors import BadNumber, BadStrip, NotFull
from wiresindark.films import is_strip
from wiresindark.kinds import is_number_to

MOST_WIRES = 4


def _lit_in_row(strip, row, begin, many):
    """For so many ticks whether the column that strip, begun at one of its columns, shows then lights row."""
    return [row in strip[(begin + tick) % len(strip)] for tick in range(many)]


def _dead_rows(board, strip, second, turn):
    """(rows, rows) with the fewest rows on either side, None if nothing would be seen lit any more."""
    many = lcm(len(strip), len(second))
    first_dead, second_dead, is_lit = [], [], False
    for row in range(board.height):
        here, there = _lit_in_row(strip, row, 0, many), _lit_in_row(second, row, turn, many)
        if here == there:
            is_lit = is_lit or True in here
            continue
        # What is unlike has to be dark on both sides.
        if True in here:
            first_dead.append(row)
        if True in there:
            second_dead.append(row)
    return (tuple(first_dead), tuple(second_dead)) if is_lit else None


def strips_alike(board, strip, second, k):
    """(rows, rows, turn): with these dead rows both texts look alike, the second one so many columns ahead; or None."""
    if not board.is_full:
        raise NotFull(board)
    for columns in (strip, second):
        if not is_strip(board, columns):
            raise BadStrip(columns)
    if not is_number_to(k, MOST_WIRES):
        raise BadNumber(k)
    for turn in range(len(second)):
        found = _dead_rows(board, strip, second, turn)
        if found is not None and len(found[0]) <= k and len(found[1]) <= k:
            return found[0], found[1], turn
    return None
