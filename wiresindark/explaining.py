"""Which dead wires explain what was seen of a film."""

from wiresindark.bits import all_wires, dead_of, in_any, in_each, numbers_of, size_of, without
from wiresindark.blocks import arrows_of, blocks_of
from wiresindark.demands import Demands, apart, covers, explaining_sets
from wiresindark.errors import BadNumber, BadSeen, BadWires, NoCause
from wiresindark.kinds import has_form, is_ascending, is_integer, is_integer_pair, is_number_to, is_pair
from wiresindark.pictures import Dead
from wiresindark.sights import Sight, are_seen, are_wires, wires_at

MOST_WIRES = 20


def _sight_of(film, seen, alive, dying):
    if not are_seen(film.board, seen):
        raise BadSeen(seen)
    if not are_wires(film.board, alive):
        raise BadWires(alive)
    return Sight(seen, alive, dying)


def _barred(sight, place, dot):
    by_row, by_column = [sight.proofs(wire, place) for wire in wires_at(dot)]
    return ("barred", sight.ticks[place], dot, by_row[0], by_column[0])


def explained(film, seen, *, alive=(), dying=False):
    """The fewest dead wires by which this can be seen of film, or why it cannot."""
    sight = _sight_of(film, seen, alive, dying)
    strays = sight.strays(film)
    if strays:
        tick, dot = strays[0]
        return ("stray", tick, dot)
    demands = Demands(film, sight)
    if demands.barred:
        place, dot = demands.barred[0]
        return _barred(sight, place, dot)
    fewest = min(covers(demands, MOST_WIRES), key=size_of)
    return ("explained", dead_of(film.board, fewest), apart(demands))


def _is_tick_and_dot(value):
    """Whether any value has the form of a pair (tick, dot)."""
    return is_pair(value) and is_integer(value[0]) and is_integer_pair(value[1])


def _is_one_of(value, pairs):
    """Whether any value is one of the pairs (tick, dot), among which () may stand."""
    # The form is asked first, since (0, (0, True)) would be equal to (0, (0, 1)).
    return (value == () or _is_tick_and_dot(value)) and value in pairs


def _shows_stray(strays, value):
    return has_form(value, "stray", 3) and _is_one_of(value[1:], strays)


def _shows_barred(sight, barred, value):
    if not has_form(value, "barred", 5):
        return False
    for place, dot in barred:
        if _is_one_of(value[1:3], [(sight.ticks[place], dot)]):
            by_row, by_column = [sight.proofs(wire, place) for wire in wires_at(dot)]
            return _is_one_of(value[3], by_row) and _is_one_of(value[4], by_column)
    return False


def _explains(film, sight, dead):
    """Whether dead explains what was seen, if nothing was seen that film does not light."""
    if not all([sight.may_be_dead_at_last(wire) for wire in dead.wires]):
        return False
    for place, dot in sight.missing(film):
        if not any([wire in dead and sight.may_be_dead(wire, place) for wire in wires_at(dot)]):
            return False
    return True


def _share_a_wire(sight, one, other):
    """Whether two pairs (place, dot) hang at one wire that may be dead at both places."""
    wires = [wire for wire in wires_at(one[1]) if wire in wires_at(other[1])]
    return any([sight.may_be_dead(wire, one[0]) and sight.may_be_dead(wire, other[0]) for wire in wires])


def _are_apart(film, sight, value):
    """Whether any value is an ascending tuple of (tick, dot) that no wire can be dead for two of."""
    if not isinstance(value, tuple) or not all([_is_tick_and_dot(pair) for pair in value]):
        return False
    missing = {(sight.ticks[place], dot): (place, dot) for place, dot in sight.missing(film)}
    if not is_ascending(value) or not all([pair in missing for pair in value]):
        return False
    chosen = [missing[pair] for pair in value]
    for number in range(len(chosen)):
        if any([_share_a_wire(sight, other, chosen[number]) for other in chosen[:number]]):
            return False
    return True


def _shows_explained(film, sight, value):
    if not has_form(value, "explained", 3) or not isinstance(value[1], Dead) or value[1].board != film.board:
        return False
    if not _explains(film, sight, value[1]) or not _are_apart(film, sight, value[2]):
        return False
    # Each dot that is apart needs a wire of its own: so with as many wires these are the fewest.
    return len(value[1]) == len(value[2])


def shows_explained(film, seen, value, *, alive=(), dying=False):
    """Whether any value is a correct result of explained."""
    sight = _sight_of(film, seen, alive, dying)
    strays = sight.strays(film)
    if strays:
        return _shows_stray(strays, value)
    barred = Demands(film, sight).barred
    if barred:
        return _shows_barred(sight, barred, value)
    return _shows_explained(film, sight, value)


class Causes:
    """All Deads with the fewest wires that explain what was seen, ascending by (rows, columns)."""

    def __init__(self, film, seen, *, alive=(), dying=False):
        result = explained(film, seen, alive=alive, dying=dying)
        if result[0] != "explained":
            raise NoCause(result)
        self.number = len(result[1])
        fewest = explaining_sets(film, Sight(seen, alive, dying), self.number)
        self._board = film.board
        self._choices = sorted([(numbers_of(rows), numbers_of(columns)) for rows, columns in fewest])
        self.always = dead_of(film.board, in_each(fewest))
        self.never = dead_of(film.board, without(all_wires(film.board), in_any(fewest)))
        self.first = self._dead(min(self._choices, key=lambda choice: len(choice[0])))
        self.last = self._dead(max(self._choices, key=lambda choice: len(choice[0])))
        blocks = blocks_of(self._choices, film.board)
        self.blocks = tuple([block for block, places in blocks])
        self.arrows = arrows_of(blocks)

    def _dead(self, choice):
        rows, columns = choice
        return Dead(self._board, rows, columns)

    def __len__(self):
        return len(self._choices)

    def __getitem__(self, at):
        if not is_number_to(at, len(self._choices) - 1):
            raise BadNumber(at)
        return self._dead(self._choices[at])

    def __iter__(self):
        raise TypeError("causes are told by their numbers")

    def __contains__(self, x):
        if not isinstance(x, Dead) or x.board != self._board:
            return False
        return (x.rows, x.columns) in self._choices


def _fewest_columns(pairs, most_rows):
    """The fewest columns of the pairs with at most so many rows, None if there are none."""
    found = [len(numbers_of(columns)) for rows, columns in pairs if len(numbers_of(rows)) <= most_rows]
    return min(found, default=None)


def stair(film, seen):
    """The pairs (rows, columns) by which more rows spare columns."""
    if not are_seen(film.board, seen):
        raise BadSeen(seen)
    pairs = explaining_sets(film, Sight(seen, (), False), MOST_WIRES)
    found = []
    for rows in range(film.board.height + 1):
        columns = _fewest_columns(pairs, rows)
        # With more rows there are never more columns.
        if columns is not None and (not found or columns < found[-1][1]):
            found.append((rows, columns))
    return tuple(found)
