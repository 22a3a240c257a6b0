"""Dots of which no two share a wire."""


def _take_column(row, columns_of, holders, tried):
    """Whether row gets a column, other rows changing theirs if they must; holders tells whose the columns are."""
    for column in columns_of[row]:
        if column in tried:
            continue
        tried[column] = True
        if column not in holders or _take_column(holders[column], columns_of, holders, tried):
            holders[column] = row
            return True
    return False


def most_apart(dots):
    """The ascending tuple of as many of the dots as possible, no two of which share a row or a column."""
    columns_of = {}
    for row, column in dots:
        columns_of.setdefault(row, []).append(column)
    holders = {}
    for row in sorted(columns_of):
        _take_column(row, columns_of, holders, {})
    return tuple(sorted([(row, column) for column, row in holders.items()]))
