"""Films: pictures that come round for ever."""

from wiresindark.errors import BadLooks, BadPictures, BadStrip, BadTick, OtherBoard, TooLong
from wiresindark.kinds import are_looks, are_numbers, is_tick
from wiresindark.pictures import Picture

MOST_PICTURES = 12
MOST_FILMS = 6
MOST_TOGETHER = 24


def need_board_of(film, other):
    """other is anything that has a board."""
    if film.board != other.board:
        raise OtherBoard(other)


def _need_tick(value, least):
    if not is_tick(value) or value < least:
        raise BadTick(value)


def _need_room(many):
    if many > MOST_PICTURES:
        raise TooLong(many)


def _are_pictures(value):
    if not isinstance(value, tuple) or not 1 <= len(value) <= MOST_PICTURES:
        return False
    # The boards come last: only pictures have one for sure.
    if not all([isinstance(picture, Picture) for picture in value]):
        return False
    return all([picture.board == value[0].board for picture in value])


class Film:
    """Pictures of one board; the last one is followed by the first one, for ever."""

    def __init__(self, pictures):
        if not _are_pictures(pictures):
            raise BadPictures(pictures)
        self.pictures = pictures
        self.board = pictures[0].board

    def shows(self, other):
        need_board_of(self, other)
        # After so many ticks both films have come round together.
        ticks = len(self.pictures) * len(other.pictures)
        return all([self[tick] == other[tick] for tick in range(ticks)])

    def __len__(self):
        return len(self.pictures)

    def __getitem__(self, at):
        _need_tick(at, 0)
        return self.pictures[at % len(self.pictures)]

    def __iter__(self):
        raise TypeError("a film goes on for ever")

    def __rshift__(self, other):
        _need_tick(other, 0)
        begin = other % len(self.pictures)
        return Film(self.pictures[begin:] + self.pictures[:begin])

    def __add__(self, other):
        need_board_of(self, other)
        _need_room(len(self.pictures) + len(other.pictures))
        return Film(self.pictures + other.pictures)

    def __mul__(self, other):
        _need_tick(other, 1)
        # Before any picture is repeated: the number can be a great one.
        _need_room(len(self.pictures) * other)
        return Film(tuple([picture for picture in self.pictures for _ in range(other)]))

    def __eq__(self, other):
        return isinstance(other, Film) and self.pictures == other.pictures


def are_films(value):
    """Whether any value is a tuple of films that one can choose from."""
    if not isinstance(value, tuple) or not 1 <= len(value) <= MOST_FILMS:
        return False
    # The boards and lengths come last: only films have them for sure.
    if not all([isinstance(film, Film) for film in value]):
        return False
    if not all([film.board == value[0].board for film in value]):
        return False
    return sum([len(film.pictures) for film in value]) <= MOST_TOGETHER


def truths_of(films):
    """All pairs (number, begin), ascending: this film runs, begun at this one of its pictures."""
    return [(number, begin) for number in range(len(films)) for begin in range(len(films[number]))]


def is_strip(board, value):
    if not isinstance(value, tuple) or not 1 <= len(value) <= MOST_PICTURES:
        return False
    return all([are_numbers(column, board.height) for column in value])


def strip_at(board, strip, tick):
    """The picture of board when so many columns of strip have run out at the left."""
    lit = [(row, column) for row, column in board.dots if row in strip[(column + tick) % len(strip)]]
    return Picture(board, tuple(lit))


def running(board, strip):
    """The film of a text that runs to the left."""
    if not is_strip(board, strip):
        raise BadStrip(strip)
    return Film(tuple([strip_at(board, strip, tick) for tick in range(len(strip))]))


def shown(film, looks, dead):
    """What is seen of film at the looks if these wires are dead."""
    if not are_looks(looks):
        raise BadLooks(looks)
    # A picture itself refuses dead wires of another board.
    return tuple([(tick, film[tick] - dead) for tick in looks])
