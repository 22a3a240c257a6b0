"""The lines of a book that tell the pictures of a film.

A picture is told by a pair (strip, tick): it is that of the strip when so many of its columns have run out.
"""

from wiresindark.boards import LONGEST
from wiresindark.films import MOST_PICTURES
from wiresindark.lines import AHEAD, number_between

MOST_GAP = 9
MOST_COUNTED = 999
ALL_FIGURES = 10
DARK_COLUMN = ()


def _signs_in(word, signs):
    """The columns of the signs whose names stand in word, None if one of them is no sign."""
    names = word.split(",")
    return [signs[name] for name in names] if all([name in signs for name in names]) else None


def _laid(columns):
    """The strip of some signs side by side, with one dark column between them."""
    strip = columns[0]
    for sign in columns[1:]:
        strip = strip + (DARK_COLUMN,) + sign
    return strip


def _standing(strip, many):
    # Behind so many dark columns nothing of the strip comes round on any board.
    return [(strip + (DARK_COLUMN,) * LONGEST, 0)] * many


def _still(words, signs):
    if len(words) != 3:
        return None
    columns, many = _signs_in(words[1], signs), number_between(words[2], 1, MOST_PICTURES)
    if columns is None or many is None:
        return None
    return _standing(_laid(columns), many)


def _run(words, signs):
    if len(words) != 3:
        return None
    columns, gap = _signs_in(words[1], signs), number_between(words[2], 1, MOST_GAP)
    if columns is None or gap is None:
        return None
    strip = _laid(columns) + (DARK_COLUMN,) * gap
    return [(strip, tick) for tick in range(len(strip))]


def _count(words, signs):
    if len(words) != 4:
        return None
    least, most = [number_between(word, 0, MOST_COUNTED) for word in words[1:3]]
    columns = _signs_in(words[3], signs)
    if least is None or most is None or least > most or columns is None or len(columns) != ALL_FIGURES:
        return None
    pictures = []
    for number in range(least, most + 1):
        figures = str(number).zfill(len(str(most)))
        pictures.extend(_standing(_laid([columns[int(figure)] for figure in figures]), 1))
    return pictures


def _dark(words, signs):
    many = number_between(words[1], 1, MOST_PICTURES) if len(words) == 2 else None
    return None if many is None else _standing((), many)


FORMS = {"still": _still, "run": _run, "count": _count, "dark": _dark}


def scene_in(line, signs):
    """The pictures that a line of a film tells, None if it has none of the forms; signs are the columns of each."""
    if not line.startswith(AHEAD):
        return None
    words = line[len(AHEAD):].split(" ")
    if words[0] not in FORMS:
        return None
    form = FORMS[words[0]]
    return form(words, signs)
