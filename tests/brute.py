"""What the document says of films, of what was seen and of truths, by trying all sets of dead wires, word by word."""

import itertools

from wiresindark.boards import Board
from wiresindark.films import Film
from wiresindark.pictures import Dead, Picture


def subsets(things, most=99):
    things = list(things)
    return [part for many in range(min(most, len(things)) + 1) for part in itertools.combinations(things, many)]


def dead_from(board, wires):
    rows = tuple(sorted(number for kind, number in wires if kind == "row"))
    columns = tuple(sorted(number for kind, number in wires if kind == "column"))
    return Dead(board, rows, columns)


def all_deads(board, most=20):
    return [dead_from(board, wires) for wires in subsets(board.wires, most)]


def wires_of(dot):
    return ("row", dot[0]), ("column", dot[1])


def lit(film, tick):
    return film.pictures[tick % len(film.pictures)].dots


# What is seen, by the dots alone.

def seen_of(film, looks, dead_at):
    """What is seen if dead_at, one for each look, are the dead wires."""
    found = []
    for tick, wires in zip(looks, dead_at):
        dots = [dot for dot in lit(film, tick) if not set(wires_of(dot)) & set(wires)]
        found.append((tick, Picture(film.board, tuple(dots))))
    return tuple(found)


def look_alike(one, other, looks, wires, other_wires):
    dots = [(tick, dot) for tick in looks for dot in lit(one, tick) if not set(wires_of(dot)) & set(wires)]
    others = [(tick, dot) for tick in looks for dot in lit(other, tick) if not set(wires_of(dot)) & set(other_wires)]
    return dots == others


# Section 7.

def may_be_dead(seen, wire, place, alive=(), dying=False):
    if wire in alive:
        return False
    looks = seen[place:] if dying else seen
    return not any(wire in wires_of(dot) for _, picture in looks for dot in picture.dots)


def strays(film, seen):
    return [(tick, dot) for tick, picture in seen for dot in picture.dots if dot not in lit(film, tick)]


def missing(film, seen):
    """(place, dot) of all dots that are missing."""
    looks = enumerate(seen)
    return [(place, dot) for place, (tick, picture) in looks for dot in lit(film, tick) if dot not in picture.dots]


def barred(film, seen, alive=(), dying=False):
    return [
        (place, dot) for place, dot in missing(film, seen)
        if not any(may_be_dead(seen, wire, place, alive, dying) for wire in wires_of(dot))
    ]


def proofs(seen, wire, place, alive=(), dying=False):
    found = [()] if wire in alive else []
    for tick, picture in seen[place:] if dying else seen:
        found += [(tick, dot) for dot in picture.dots if wire in wires_of(dot)]
    return found


def barred_results(film, seen, alive=(), dying=False):
    """All results of explained that begin with "barred"."""
    found = []
    for place, dot in barred(film, seen, alive, dying):
        rows, columns = [proofs(seen, wire, place, alive, dying) for wire in wires_of(dot)]
        found += [("barred", seen[place][0], dot, one, other) for one in rows for other in columns]
    return found


def explains(film, seen, dead, alive=(), dying=False):
    if strays(film, seen):
        return False
    last = len(seen) - 1
    if not all(may_be_dead(seen, wire, last, alive, dying) for wire in dead.wires):
        return False
    return all(
        any(wire in dead.wires and may_be_dead(seen, wire, place, alive, dying) for wire in wires_of(dot))
        for place, dot in missing(film, seen)
    )


def explaining(film, seen, alive=(), dying=False, most=20):
    """All Deads of at most so many wires that explain seen."""
    last = len(seen) - 1
    wires = [wire for wire in film.board.wires if may_be_dead(seen, wire, last, alive, dying)]
    tried = [dead_from(film.board, some) for some in subsets(wires, most)]
    return [dead for dead in tried if explains(film, seen, dead, alive, dying)]


def fewest(film, seen, alive=(), dying=False):
    """All Deads with the fewest wires that explain seen, ascending by (rows, columns)."""
    found = explaining(film, seen, alive, dying)
    least = min([len(dead) for dead in found], default=0)
    return sorted([dead for dead in found if len(dead) == least], key=lambda dead: (dead.rows, dead.columns))


def are_apart(film, seen, pairs, alive=(), dying=False):
    """Whether a tuple of (tick, dot) is what section 7 calls apart, whatever its length."""
    places = {tick: place for place, (tick, picture) in enumerate(seen)}
    if list(pairs) != sorted(set(pairs)):
        return False
    if not all(tick in places and (places[tick], dot) in missing(film, seen) for tick, dot in pairs):
        return False
    for (tick, dot), (when, other) in itertools.combinations(pairs, 2):
        for wire in set(wires_of(dot)) & set(wires_of(other)):
            if all(may_be_dead(seen, wire, places[at], alive, dying) for at in (tick, when)):
                return False
    return True


def is_explained(film, seen, value, alive=(), dying=False):
    """Whether value, of the right form, is a correct result of explained or any other stray dot."""
    if strays(film, seen):
        return value[0] == "stray" and value[1:] in strays(film, seen)
    if barred(film, seen, alive, dying):
        return value in barred_results(film, seen, alive, dying)
    if value[0] != "explained":
        return False
    least = fewest(film, seen, alive, dying)
    return value[1] in least and len(value[2]) == len(value[1]) and are_apart(film, seen, value[2], alive, dying)


def one_block(deads, one, other):
    """Whether two wires stand in one block."""
    both = [(one in dead.wires, other in dead.wires) for dead in deads]
    if one[0] == other[0]:
        return all(this == that for this, that in both)
    return all(this != that for this, that in both)


def blocks(deads, board):
    wires = [wire for wire in board.wires if 0 < sum(wire in dead.wires for dead in deads) < len(deads)]
    found = set()
    for wire in wires:
        block = [other for other in wires if one_block(deads, wire, other)]
        rows = tuple(sorted(number for kind, number in block if kind == "row"))
        found.add((rows, tuple(sorted(number for kind, number in block if kind == "column"))))
    return tuple(sorted(found))


def goes_by_rows(dead, block):
    return set(block[0]) <= set(dead.rows)


def arrows(deads, found):
    pairs = itertools.permutations(range(len(found)), 2)
    return tuple(sorted(
        (one, other) for one, other in pairs
        if all(goes_by_rows(dead, found[other]) for dead in deads if goes_by_rows(dead, found[one]))
    ))


def stairs(film, seen):
    found = explaining(film, seen)
    pairs = []
    for rows in range(film.board.height + 1):
        columns = [len(dead.columns) for dead in found if len(dead.rows) <= rows]
        if columns and not any(fewer <= min(columns) for _, fewer in pairs):
            pairs.append((rows, min(columns)))
    return tuple(pairs)


# Section 8.

def truths(films):
    return [(number, begin) for number, film in enumerate(films) for begin in range(len(film.pictures))]


def begun(film, begin):
    return Film(film.pictures[begin:] + film.pictures[:begin])


def accounts(films, seen, most, dying=False):
    """(number, begin, deads) for all truths that at most so many dead wires explain."""
    found = []
    for number, begin in truths(films):
        deads = explaining(begun(films[number], begin), seen, (), dying, most)
        if deads:
            found.append((number, begin, deads))
    return found


def told(films, seen, most, dying=False):
    found = accounts(films, seen, most, dying)
    return tuple((number, begin, min(map(len, deads))) for number, begin, deads in found)


def surely(films, seen, most, dying=False):
    deads = [dead for _, _, found in accounts(films, seen, most, dying) for dead in found]
    if not deads:
        return None
    board = films[0].board
    dead = [wire for wire in board.wires if all(wire in found.wires for found in deads)]
    alive = [wire for wire in board.wires if not any(wire in found.wires for found in deads)]
    return dead_from(board, dead), dead_from(board, alive)


def expected(films, seen, most, tick):
    found = accounts(films, seen, most)
    if not found:
        return None
    board = films[0].board
    surely_lit, surely_dark = set(board.dots), set(board.dots)
    for number, begin, deads in found:
        for dead in deads:
            now = {dot for dot in lit(films[number], begin + tick) if not set(wires_of(dot)) & set(dead.wires)}
            surely_lit &= now
            surely_dark -= now
    return Picture(board, tuple(sorted(surely_lit))), Picture(board, tuple(sorted(surely_dark)))


# Section 9.

def mix_ups(one, other, looks, most):
    """All pairs of Deads of at most so many wires each by which the films look alike."""
    deads = all_deads(one.board, most)
    by_sight = {}
    for dead in deads:
        dots = tuple(picture.dots for _, picture in seen_of(other, looks, [dead.wires] * len(looks)))
        by_sight.setdefault(dots, []).append(dead)
    found = []
    for dead in deads:
        dots = tuple(picture.dots for _, picture in seen_of(one, looks, [dead.wires] * len(looks)))
        found += [(dead, match) for match in by_sight.get(dots, [])]
    return found


def has_to_be_met(films, looks, side, dot, taken):
    here, there = [{tick for tick in looks if dot in lit(films[at], tick)} for at in (side, 1 - side)]
    if here and not there:
        return True
    if here and there and here != there:
        return True
    if here and here == there:
        return bool(set(wires_of(dot)) & set(taken[1 - side]))
    return False


def is_unmet(films, looks, side, dot, taken):
    """Whether a dot is what section 9 calls open."""
    return has_to_be_met(films, looks, side, dot, taken) and not set(wires_of(dot)) & set(taken[side])


def closes(films, looks, most, tree, taken=((), ())):
    """Whether a tree of the right form shows what section 9 says."""
    if tree[0] == "more":
        _, side, dots = tree
        if list(dots) != sorted(set(dots)) or not all(is_unmet(films, looks, side, dot, taken) for dot in dots):
            return False
        if any(set(wires_of(one)) & set(wires_of(other)) for one, other in itertools.combinations(dots, 2)):
            return False
        return len(dots) + len(taken[side]) > most
    _, side, dot, first, second = tree
    if not is_unmet(films, looks, side, dot, taken):
        return False
    for wire, below in zip(wires_of(dot), (first, second)):
        more = [*taken]
        more[side] = taken[side] + (wire,)
        if not closes(films, looks, most, below, tuple(more)):
            return False
    return True


# Cases.

def any_board(random, height, width, gaps):
    while True:
        rows = tuple("".join("." if random.random() < gaps else "o" for _ in range(width)) for _ in range(height))
        if all("o" in row for row in rows) and all("o" in column for column in zip(*rows)):
            return Board(rows)


def any_picture(random, board, share):
    return Picture(board, tuple(dot for dot in board.dots if random.random() < share))


def any_film(random, board, many, share):
    return Film(tuple(any_picture(random, board, share) for _ in range(many)))


def any_looks(random, many, last):
    return tuple(sorted(random.sample(range(last + 1), many)))


def any_wires(random, board, share):
    return tuple(wire for wire in board.wires if random.random() < share)


def any_deaths(random, board, many, share):
    """The dead wires at so many looks: they only become more."""
    final = any_wires(random, board, share)
    born = {wire: random.randrange(many) for wire in final}
    return [tuple(wire for wire in final if born[wire] <= place) for place in range(many)]
