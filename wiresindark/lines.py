"""Texts of lines: their words, names and numbers, and reading them line by line."""

AHEAD = "  "
LETTERS = "abcdefghijklmnopqrstuvwxyz"
FIGURES = "0123456789"
LONGEST_NAME = 8
# No text that this package writes has longer numbers, and Python itself refuses those of some thousand figures.
MOST_FIGURES = 900


def is_name(value):
    """Whether any value is a string of 1 to 8 letters a to z."""
    if not isinstance(value, str) or not 1 <= len(value) <= LONGEST_NAME:
        return False
    return all([letter in LETTERS for letter in value])


def number_in(word):
    """The number that word is, None if it is none."""
    if not 1 <= len(word) <= MOST_FIGURES or not all([figure in FIGURES for figure in word]):
        return None
    if word[0] == "0" and word != "0":
        return None
    return int(word)


def number_between(word, least, most):
    """The number that word is, None if it is none of these."""
    number = number_in(word)
    return number if number is not None and least <= number <= most else None


def number_behind(line, word):
    """The number in a line such as "tick 5", word being that ahead of it; None if line has not this form."""
    words = line.split(" ")
    return number_in(words[1]) if len(words) == 2 and words[0] == word else None


def name_behind(line, word):
    """The name in a line such as "film a", word being that ahead of it; None if line has not this form."""
    words = line.split(" ")
    return words[1] if len(words) == 2 and words[0] == word and is_name(words[1]) else None


def indented(lines):
    """The lines, each with two blanks ahead."""
    return [AHEAD + line for line in lines]


class Reader:
    """A text that is read line by line; number is that of the line that comes next, counted from 1."""

    def __init__(self, text):
        self._lines = text.split("\n")
        self.number = 1

    def has_ended(self):
        return self.number > len(self._lines)

    def upcoming(self):
        """The line that comes next; behind the last one an empty line, which no text has."""
        return "" if self.has_ended() else self._lines[self.number - 1]

    def go_on(self):
        self.number = self.number + 1
