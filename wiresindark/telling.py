"""What follows from what was seen, for all truths: all films that can run, begun at any of their pictures."""

from wiresindark.bits import all_wires, bits_of, dead_of, in_any, in_each, size_of, without
from wiresindark.demands import explaining_sets
from wiresindark.errors import BadFilms, BadNumber, BadSeen, BadTick
from wiresindark.films import are_films, truths_of
from wiresindark.kinds import is_number_to, is_tick
from wiresindark.pictures import Picture
from wiresindark.sights import Sight, are_seen

MOST_WIRES = 20


def _need_films_and_seen(films, seen):
    if not are_films(films):
        raise BadFilms(films)
    if not are_seen(films[0].board, seen):
        raise BadSeen(seen)


def _need_number(k):
    if not is_number_to(k, MOST_WIRES):
        raise BadNumber(k)


def _ways(films, sight, k):
    """(number, begin, sets) for each truth that some sets of at most k wires explain."""
    found = []
    for number, begin in truths_of(films):
        sets = explaining_sets(films[number] >> begin, sight, k)
        if sets:
            found.append((number, begin, sets))
    return found


def told(films, seen, k, *, dying=False):
    """(number, begin, fewest) for all truths that can have been seen with at most k dead wires."""
    _need_films_and_seen(films, seen)
    _need_number(k)
    ways = _ways(films, Sight(seen, (), dying), k)
    return tuple([(number, begin, min([size_of(wires) for wires in sets])) for number, begin, sets in ways])


def least_dead(films, seen, *, dying=False):
    """The fewest dead wires with which any of the films can have been seen, None if there are none."""
    truths = told(films, seen, MOST_WIRES, dying=dying)
    return min([fewest for number, begin, fewest in truths], default=None)


def _that_may_be_dead(board, sight):
    wires = [wire for wire in board.wires if sight.may_be_dead_at_last(wire)]
    rows = [number for kind, number in wires if kind == "row"]
    columns = [number for kind, number in wires if kind == "column"]
    return bits_of(rows), bits_of(columns)


def _in_some_dead(board, sight, sets, k):
    """The wires that are in at least one of all Deads of at most k wires that have one of the sets."""
    if any([size_of(wires) < k for wires in sets]):
        # Any wire that may be dead can be in addition.
        return _that_may_be_dead(board, sight)
    return in_any(sets)


def surely(films, seen, k, *, dying=False):
    """The Deads of the wires that are surely dead and surely alive, None if nothing is told."""
    _need_films_and_seen(films, seen)
    _need_number(k)
    board = films[0].board
    sight = Sight(seen, (), dying)
    found = [wires for number, begin, sets in _ways(films, sight, k) for wires in sets]
    if not found:
        return None
    dead = dead_of(board, in_each(found))
    return dead, dead_of(board, without(all_wires(board), _in_some_dead(board, sight, found, k)))


def _met_by_each(board, sets):
    """The Picture of the dots that each of the sets meets."""
    found = []
    for row in range(board.height):
        sparing = [wires for wires in sets if not wires[0] >> row & 1]
        columns = in_each(sparing)[1] if sparing else all_wires(board)[1]
        found.extend([dot for dot in board.dots if dot[0] == row and columns >> dot[1] & 1])
    return Picture(board, tuple(found))


def expected(films, seen, k, tick):
    """The Pictures of the dots that are surely lit and surely dark at tick, None if nothing is told."""
    _need_films_and_seen(films, seen)
    _need_number(k)
    if not is_tick(tick):
        raise BadTick(tick)
    board = films[0].board
    sight = Sight(seen, (), False)
    ways = _ways(films, sight, k)
    if not ways:
        return None
    lit = dark = Picture(board, board.dots)
    for number, begin, sets in ways:
        picture = films[number][begin + tick]
        lit = lit & (picture - dead_of(board, _in_some_dead(board, sight, sets, k)))
        dark = dark - (picture - _met_by_each(board, sets))
    return lit, dark
