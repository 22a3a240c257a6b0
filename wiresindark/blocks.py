"""In which of some sets of wires each wire is, and the blocks of wires that go together."""


def _places(choices, kind, number):
    """The places of the choices that have this row (kind 0) or column (kind 1), as bits."""
    bits = 0
    for place in range(len(choices)):
        if number in choices[place][kind]:
            bits = bits | 1 << place
    return bits


def blocks_of(choices, board):
    """Pairs (block, places), ascending, for the pairs (rows, columns) of numbers that choices are.

    The places are those of the choices that go by rows at the block, as bits.
    """
    every = (1 << len(choices)) - 1
    rows_at, columns_at = {}, {}
    for row in range(board.height):
        rows_at.setdefault(_places(choices, 0, row), []).append(row)
    for column in range(board.width):
        # A column stands with the rows that the choices have in its stead.
        columns_at.setdefault(every ^ _places(choices, 1, column), []).append(column)
    # What no choice has, or each one, stands in no block.
    halves = [places for places in rows_at if 0 < places < every]
    return sorted([((tuple(rows_at[places]), tuple(columns_at[places])), places) for places in halves])


def arrows_of(blocks):
    """The ascending pairs of different blocks of which the first by rows takes the second by rows along."""
    found = []
    for one in range(len(blocks)):
        for other in range(len(blocks)):
            here, there = blocks[one][1], blocks[other][1]
            if one != other and here & there == here:
                found.append((one, other))
    return tuple(found)
