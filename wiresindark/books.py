"""Books: texts that tell a board and the films that can run on it."""

from wiresindark.boards import LONGEST, Board
from wiresindark.errors import BadBoard, BadBook, NoFilm
from wiresindark.films import MOST_FILMS, MOST_PICTURES, MOST_TOGETHER, Film, strip_at
from wiresindark.lines import AHEAD, Reader, name_behind
from wiresindark.pictures import LIT
from wiresindark.scenes import scene_in

BOARD_SIGNS = "o."
SIGN_SIGNS = "#."
WIDEST_SIGN = 5


def _is_row(line, signs, longest):
    """Whether line has two blanks ahead and then 1 to so many of these characters."""
    row = line[len(AHEAD):]
    return line.startswith(AHEAD) and 1 <= len(row) <= longest and all([sign in signs for sign in row])


def _rows(reader, signs, longest, most):
    """The rows of one length that come next, at most so many."""
    rows = []
    while len(rows) < most and _is_row(reader.upcoming(), signs, longest):
        row = reader.upcoming()[len(AHEAD):]
        if rows and len(row) != len(rows[0]):
            break
        rows.append(row)
        reader.go_on()
    return rows


def _board_rows(reader):
    if reader.upcoming() != "board":
        raise BadBook(reader.number)
    reader.go_on()
    rows = _rows(reader, BOARD_SIGNS, LONGEST, LONGEST)
    if not rows:
        raise BadBook(reader.number)
    return tuple(rows)


def _columns_of(rows):
    width = len(rows[0])
    return tuple([tuple([row for row in range(len(rows)) if rows[row][at] == LIT]) for at in range(width)])


def _signs(reader, height):
    """For each sign that comes next its columns. What is no new sign is left for the films, which refuse it."""
    signs = {}
    name = name_behind(reader.upcoming(), "sign")
    while name is not None and name not in signs:
        reader.go_on()
        rows = _rows(reader, SIGN_SIGNS, WIDEST_SIGN, height)
        if len(rows) < height:
            raise BadBook(reader.number)
        signs[name] = _columns_of(rows)
        name = name_behind(reader.upcoming(), "sign")
    return signs


def _scenes(reader, signs, most):
    """The pictures of the lines of a film that come next, at most so many; a line by which they are more is left."""
    pictures = []
    scene = scene_in(reader.upcoming(), signs)
    while scene is not None and len(pictures) + len(scene) <= most:
        pictures.extend(scene)
        reader.go_on()
        scene = scene_in(reader.upcoming(), signs)
    if not pictures:
        raise BadBook(reader.number)
    return pictures


def _films(reader, signs):
    """For each film its pictures, as scene_in tells them, up to the end of the text."""
    films = {}
    together = 0
    while not films or not reader.has_ended():
        name = name_behind(reader.upcoming(), "film")
        if name is None or name in films or len(films) == MOST_FILMS:
            raise BadBook(reader.number)
        reader.go_on()
        films[name] = _scenes(reader, signs, min(MOST_PICTURES, MOST_TOGETHER - together))
        together = together + len(films[name])
    return films


def _board(rows):
    try:
        return Board(rows)
    except BadBoard:
        raise BadBook(1) from None


class Book:
    """A text of lines, with the board and the films that it tells."""

    def __init__(self, text):
        if not isinstance(text, str):
            raise BadBook(0)
        reader = Reader(text)
        rows = _board_rows(reader)
        signs = _signs(reader, len(rows))
        films = _films(reader, signs)
        # The board comes last: it is refused only if no line is.
        board = _board(rows)
        self.text = text
        self.board = board
        self.signs = tuple(signs)
        self.names = tuple(films)
        self.films = tuple([
            Film(tuple([strip_at(board, strip, tick) for strip, tick in pictures])) for pictures in films.values()
        ])

    def __getitem__(self, at):
        for name, film in zip(self.names, self.films):
            if name == at:
                return film
        raise NoFilm(at)

    def __iter__(self):
        raise TypeError("a book is asked for its films by their names")

    def __contains__(self, x):
        return isinstance(x, str) and x in self.names

    def __eq__(self, other):
        return isinstance(other, Book) and self.text == other.text
