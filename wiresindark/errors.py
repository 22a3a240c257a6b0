"""The errors of the package."""


class WireError(ValueError):
    """What every error of the package is; value is what was refused."""

    def __init__(self, value):
        self.value = value


class BadBoard(WireError):
    """No rows of a board."""


class BadDots(WireError):
    """No ascending tuple of dots of the board."""


class BadRows(WireError):
    """No numbers of rows of the board, or no rows of a picture of it."""


class BadColumns(WireError):
    """No ascending tuple of numbers of columns of the board."""


class OtherBoard(WireError):
    """Something that belongs to another board."""


class BadPictures(WireError):
    """No pictures of a film."""


class BadTick(WireError):
    """No tick, or no number of ticks."""


class TooLong(WireError):
    """More pictures or looks than there may be."""


class BadStrip(WireError):
    """No strip of columns."""


class BadLooks(WireError):
    """No looks."""


class BadSeen(WireError):
    """Nothing that can have been seen."""


class BadWires(WireError):
    """No ascending tuple of wires of the board."""


class NoCause(WireError):
    """No dead wires explain what was seen."""


class BadNumber(WireError):
    """A number that is out of its range, or none at all."""


class BadFilms(WireError):
    """No films to choose from."""


class BadParts(WireError):
    """No parts of the films."""


class BadOffers(WireError):
    """No offers."""


class NotFull(WireError):
    """A board that lacks dots."""


class BadBook(WireError):
    """No text of a book."""


class NoFilm(WireError):
    """No name of a film of the book."""


class BadWire(WireError):
    """No wire of the board."""


class NoChange(WireError):
    """The wire is dead, or alive, already."""


class SeenAlready(WireError):
    """This tick was looked at before."""


class NothingSeen(WireError):
    """There was no look yet."""


class NothingToUndo(WireError):
    """No event stands."""


class NothingToRedo(WireError):
    """No event was undone last."""


class BadText(WireError):
    """No text of what was seen."""


class BadJournal(WireError):
    """No journal of a watch."""


class BadLine(WireError):
    """No line that a desk answers."""
