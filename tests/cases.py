"""Films and what was seen of them on small boards, the same at each run."""

import random

from tests.brute import (
    any_board, any_deaths, any_film, any_looks, any_picture, any_wires, seen_of, subsets,
)
from wiresindark.boards import Board
from wiresindark.films import Film
from wiresindark.pictures import Picture

FORMS = ((1, 1), (1, 2), (2, 1), (2, 2), (1, 4), (2, 3), (3, 2), (3, 3), (3, 3), (4, 3), (3, 4), (4, 4))


def one_dot_otherwise(generator, seen):
    """seen with one dot lit that was dark, or dark that was lit."""
    place = generator.randrange(len(seen))
    tick, picture = seen[place]
    dot = generator.choice(picture.board.dots)
    return seen[:place] + ((tick, picture ^ Picture(picture.board, (dot,))),) + seen[place + 1:]


def case(generator, form):
    """(film, seen, alive, dying): mostly what can be explained, but also stray and barred dots."""
    board = any_board(generator, form[0], form[1], generator.choice((0, 0, 0.2, 0.4)))
    film = any_film(generator, board, generator.randint(1, 3), generator.choice((0.2, 0.5, 0.8, 1)))
    many = generator.randint(1, 4)
    looks = any_looks(generator, many, 7)
    dying = generator.random() < 0.5
    share = generator.choice((0.1, 0.3, 0.6, 1))
    deaths = any_deaths(generator, board, many, share) if dying else [any_wires(generator, board, share)] * many
    seen = seen_of(film, looks, deaths)
    if generator.random() < 0.25:
        seen = one_dot_otherwise(generator, seen)
    spared = [wire for wire in board.wires if wire not in deaths[-1]]
    alive = any_wires(generator, board, 0.3) if generator.random() < 0.3 else ()
    if generator.random() < 0.3:
        alive = tuple(wire for wire in spared if generator.random() < 0.5)
    # Also what was seen while wires died, read as if none had.
    return film, seen, alive, dying if generator.random() < 0.8 else not dying


def cases(number, many):
    generator = random.Random(number)
    return [case(generator, FORMS[place % len(FORMS)]) for place in range(many)]


def all_pictures_of(board):
    return [Picture(board, dots) for dots in subsets(board.dots)]


def all_small_cases():
    """(film, seen): all films of one picture on three small boards, with nothing but some dots seen."""
    found = []
    for rows in (("oo", "oo"), ("oo", "o."), ("ooo", "ooo")):
        board = Board(rows)
        for picture in all_pictures_of(board):
            for dots in ((), picture.dots[:1]):
                found.append((Film((picture,)), ((0, Picture(board, dots)),)))
    return found
