"""What the document says in sections 10 to 12, by trying all sets of dead wires and all pairs of truths, word by word."""

import itertools
import math

from tests import brute
from wiresindark.pictures import Dead


# Section 10.

def lit_at(films, truth, tick):
    number, begin = truth
    return brute.lit(films[number], begin + tick)


def round_of(films):
    """So many ticks that all films have come round together."""
    return math.lcm(*[len(film.pictures) for film in films])


def are_alike(films, one, other):
    return all(lit_at(films, one, tick) == lit_at(films, other, tick) for tick in range(round_of(films)))


def are_unlike(films, one, other, parts):
    if parts is not None:
        return parts[one[0]][one[1]] != parts[other[0]][other[1]]
    return not are_alike(films, one, other)


def sights(films, truth, looks, k):
    """All that can be seen of a truth at these looks with at most k dead wires."""
    found = []
    for dead in brute.all_deads(films[0].board, k):
        met = set(dead.dots)
        found.append(tuple(tuple(dot for dot in lit_at(films, truth, tick) if dot not in met) for tick in looks))
    return set(found)


def pairs_mixed(films, looks, k):
    """All pairs of truths, the lesser one first, ascending, that can look alike at these looks."""
    truths = brute.truths(films)
    by_truth = {truth: sights(films, truth, looks, k) for truth in truths}
    return [pair for pair in itertools.combinations(truths, 2) if by_truth[pair[0]] & by_truth[pair[1]]]


def least_pair(films, looks, k, parts):
    """The least pair of unlike truths that can be mixed up at these looks, None if there is none."""
    pairs = [pair for pair in pairs_mixed(films, looks, k) if are_unlike(films, *pair, parts)]
    return min(pairs, default=None)


def is_mix_up(films, looks, k, parts, value):
    """Whether a value is the mix-up at these looks, None if there is none."""
    pair = least_pair(films, looks, k, parts)
    if pair is None or value is None:
        return pair is None and value is None
    return value[:2] == pair and shows_alike(films, looks, k, value)


def shows_alike(films, looks, k, value):
    """Whether (truth, truth, dead, dead) tells two truths and Deads of at most k wires by which they look alike."""
    if type(value) is not tuple or len(value) != 4:
        return False
    first, second, dead, other = value
    if not all(type(one) is Dead and one.board == films[0].board and len(one.wires) <= k for one in (dead, other)):
        return False
    here = [[dot for dot in lit_at(films, first, tick) if dot not in dead.dots] for tick in looks]
    there = [[dot for dot in lit_at(films, second, tick) if dot not in other.dots] for tick in looks]
    return here == there


def wait(films, k, parts):
    """The least number of looks behind which no unlike truths can be mixed up, None if there is none."""
    truths = brute.truths(films)
    if not any(are_unlike(films, *pair, parts) for pair in itertools.combinations(truths, 2)):
        return 0
    for many in range(1, round_of(films) + 1):
        if least_pair(films, range(many), k, parts) is None:
            return many
    return None


def choices(offers):
    found = [some for some in brute.subsets(offers) if some]
    return sorted((sum(price for _, price in some), tuple(tick for tick, _ in some)) for some in found)


def films_mixed(films, looks, k):
    pairs = {(one[0], other[0]) for one, other in pairs_mixed(films, looks, k) if one[0] != other[0]}
    return tuple(sorted(pairs))


def clear(films, looks, k):
    pairs = films_mixed(films, looks, k)
    free = [some for some in brute.subsets(range(len(films))) if not any(set(pair) <= set(some) for pair in pairs)]
    many = max(map(len, free))
    return min(some for some in free if len(some) == many)


# Section 11.

def shows_strips_alike(board, strip, second, k, value):
    """Whether a value is (rows, rows, turn) as section 11 says."""
    if type(value) is not tuple or len(value) != 3 or type(value[2]) is not int or not 0 <= value[2] < len(second):
        return False
    for rows in value[:2]:
        if type(rows) is not tuple or list(rows) != sorted(set(rows)) or len(rows) > k:
            return False
        if not all(type(row) is int and 0 <= row < board.height for row in rows):
            return False
    return columns_alike(strip, second, *value)


def columns_alike(strip, second, rows, other_rows, turn):
    lit = False
    for tick in range(len(strip) * len(second)):
        column = [row for row in strip[tick % len(strip)] if row not in rows]
        other = [row for row in second[(tick + turn) % len(second)] if row not in other_rows]
        if column != other:
            return False
        lit = lit or bool(column)
    return lit


def strips_alike(board, strip, second, k):
    """All (rows, rows, turn) of section 11."""
    rows = brute.subsets(range(board.height), k)
    tried = itertools.product(rows, rows, range(len(second)))
    return [value for value in tried if columns_alike(strip, second, *value)]


# Section 12.

def told_apart(pictures, one, other):
    for picture in pictures:
        if [dot for dot in picture.dots if dot not in one.dots] != [dot for dot in picture.dots if dot not in other.dots]:
            return True
    return False


def unlike_deads(board, k):
    """All pairs of Deads of at most k wires that do not meet the same dots."""
    return [pair for pair in itertools.combinations(brute.all_deads(board, k), 2) if pair[0].dots != pair[1].dots]


def probes(board, offers, k):
    """The least tuple of the fewest numbers of offers, None if not even all of them are enough."""
    pairs = unlike_deads(board, k)
    for numbers in brute.subsets(range(len(offers))):
        if all(told_apart([offers[number] for number in numbers], *pair) for pair in pairs):
            return numbers
    return None
