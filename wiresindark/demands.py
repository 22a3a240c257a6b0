"""What dots that are missing ask of the dead wires, and the sets of wires that do it."""

from wiresindark.apart import most_apart
from wiresindark.bits import bits_of, size_of
from wiresindark.sights import wires_at


class Demands:
    """Which wires have to be dead, if film is what was seen; each is told with the (tick, dot) that asks for it."""

    def __init__(self, film, sight):
        self.barred = []
        self.must_rows = {}
        self.must_columns = {}
        # For dots of which the row or the column has to be dead.
        self.either = {}
        for place, dot in sight.missing(film):
            self._ask(sight, place, dot)

    def _ask(self, sight, place, dot):
        row, column = dot
        by_row, by_column = [sight.may_be_dead(wire, place) for wire in wires_at(dot)]
        cause = (sight.ticks[place], dot)
        if by_row and by_column:
            self.either.setdefault(dot, cause)
        elif by_row:
            self.must_rows.setdefault(row, cause)
        elif by_column:
            self.must_columns.setdefault(column, cause)
        else:
            self.barred.append((place, dot))

    def undecided(self):
        """The dots of either that no wire meets that has to be dead anyway."""
        return [dot for dot in self.either if dot[0] not in self.must_rows and dot[1] not in self.must_columns]


def apart(demands):
    """As many (tick, dot), ascending, as the fewest wires are: no wire can be what two of them ask for."""
    causes = list(demands.must_rows.values()) + list(demands.must_columns.values())
    return tuple(sorted(causes + [demands.either[dot] for dot in most_apart(demands.undecided())]))


def covers(demands, most):
    """For each choice of rows the fewest wires that do what is asked with just these rows dead, if at most so many.

    Rows that nothing asks for are in none of them.
    """
    needs = {}
    for row, column in demands.undecided():
        needs.setdefault(row, []).append(column)
    found = [(bits_of(list(demands.must_rows)), bits_of(list(demands.must_columns)))]
    for row, numbers in needs.items():
        by_row = [(rows | 1 << row, columns) for rows, columns in found]
        by_columns = [(rows, columns | bits_of(numbers)) for rows, columns in found]
        # Wires only come to a set, so that one with too many has too many for ever.
        found = [wires for wires in by_row + by_columns if size_of(wires) <= most]
    return [wires for wires in found if size_of(wires) <= most]


def explaining_sets(film, sight, most):
    """The covers, if anything explains what was seen; otherwise none."""
    demands = Demands(film, sight)
    if sight.strays(film) or demands.barred:
        return []
    return covers(demands, most)
