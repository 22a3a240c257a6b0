"""The text of a book, read by regular expressions and painted as rows of characters, for comparison; and texts to read."""

import re

NAME = "([a-z]{1,8})"
NAMES = "([a-z]{1,8}(?:,[a-z]{1,8})*)"
NUMBER = "(0|[1-9][0-9]*)"


class PlainBook:
    def __init__(self):
        self.begun = False
        self.board = []
        self.signs = {}
        self.films = {}
        self.last = None

    def takes(self, line):
        """Whether line can stand behind those that were taken before."""
        if not self.begun:
            self.begun = line == "board"
            return self.begun
        if self.last is None or self.last in self.signs and not self.films:
            return self.takes_row(line) or self.takes_heading(line)
        return self.takes_scene(line) or self.takes_heading(line)

    def takes_row(self, line):
        if self.last is None:
            rows, most, form = self.board, 10, "  ([o.]{1,10})"
        else:
            rows, most, form = self.signs[self.last], len(self.board), "  ([#.]{1,5})"
        found = re.fullmatch(form, line)
        if not found or len(rows) == most or rows and len(rows[0]) != len(found[1]):
            return False
        rows.append(found[1])
        return True

    def is_whole(self):
        """Whether the block that was begun last has all its lines."""
        if self.films:
            return bool(list(self.films.values())[-1])
        if self.last is None:
            return bool(self.board)
        return len(self.signs[self.last]) == len(self.board)

    def takes_heading(self, line):
        found = re.fullmatch(f"(sign|film) {NAME}", line)
        if not found or not self.is_whole():
            return False
        kind, name = found.groups()
        table = self.signs if kind == "sign" else self.films
        if name in table or kind == "sign" and self.films or len(self.films) == 6:
            return False
        table[name] = []
        self.last = name
        return True

    def takes_scene(self, line):
        pictures = self.scene(line)
        film = list(self.films.values())[-1]
        together = sum(map(len, self.films.values()))
        if pictures is None or len(film) + len(pictures) > 12 or together + len(pictures) > 24:
            return False
        film.extend(pictures)
        return True

    def laid(self, names):
        """The rows of some signs side by side, None if one of them is not there."""
        if not all(name in self.signs for name in names):
            return None
        return [".".join(self.signs[name][row] for name in names) for row in range(len(self.board))]

    def scene(self, line):
        """Pictures as rows of any length, None if line has none of the forms."""
        found = re.fullmatch(f"  still {NAMES} {NUMBER}", line)
        if found and 1 <= int(found[2]) <= 12:
            rows = self.laid(found[1].split(","))
            return rows and [rows] * int(found[2])
        found = re.fullmatch(f"  dark {NUMBER}", line)
        if found and 1 <= int(found[1]) <= 12:
            return [[""] * len(self.board)] * int(found[1])
        found = re.fullmatch(f"  run {NAMES} {NUMBER}", line)
        if found and 1 <= int(found[2]) <= 9:
            rows = self.laid(found[1].split(","))
            rows = rows and [row + "." * int(found[2]) for row in rows]
            return rows and [[(row * 12)[tick:tick + 10] for row in rows] for tick in range(len(rows[0]))]
        found = re.fullmatch(f"  count {NUMBER} {NUMBER} {NAMES}", line)
        if found and 0 <= int(found[1]) <= int(found[2]) <= 999 and found[3].count(",") == 9:
            return self.counted(int(found[1]), int(found[2]), found[3].split(","))
        return None

    def counted(self, least, most, names):
        if self.laid(names) is None:
            return None
        figures = len(str(most))
        return [self.laid([names[int(one)] for one in str(number).rjust(figures, "0")]) for number in range(least, most + 1)]

    def pictures(self, name):
        """The rows of the pictures of a film as the board shows them."""
        found = []
        for rows in self.films[name]:
            painted = []
            for row, dots in zip(rows, self.board):
                signs = [row[at:at + 1] for at in range(len(dots))]
                painted.append("".join("#" if one == "#" and dot == "o" else dot for one, dot in zip(signs, dots)))
            found.append(tuple(painted))
        return found


def read(text):
    """(None, what was read) or (the number of the line that is refused, None)."""
    book = PlainBook()
    lines = text.split("\n")
    for number, line in enumerate(lines, 1):
        if not book.takes(line):
            return number, None
    if not book.films or not book.is_whole():
        return len(lines) + 1, None
    if not all("o" in row for row in book.board) or not all("o" in column for column in zip(*book.board)):
        return 1, None
    return None, book


# Texts, the same at each run.

def some_name(generator, most=3):
    return "".join(generator.choice("abcz") for _ in range(generator.choice((1, 1, 2, most))))


def some_scene(generator, names):
    way = generator.randrange(5)
    signs = ",".join(generator.choice(names) for _ in range(generator.choice((1, 1, 2, 3)))) if names else "a"
    if way == 0:
        return f"  dark {generator.choice((1, 1, 2, 3, 12))}"
    if way == 1:
        return f"  run {signs} {generator.choice((1, 2, 3, 9))}"
    if way == 2 and names:
        least = generator.choice((0, 1, 7, 8, 9, 97, 99, 995, 998))
        figures = ",".join(generator.choice(names) for _ in range(10))
        return f"  count {least} {least + generator.randrange(4)} {figures}"
    return f"  still {signs} {generator.choice((1, 1, 2, 3))}"


def some_text(generator):
    """The text of a book; mostly a good one, but films can be too long."""
    height, width = generator.randint(1, 5), generator.randint(1, 10)
    gaps = generator.choice((0, 0, 0.2))
    lines = ["board"]
    lines += ["  " + "".join("." if generator.random() < gaps else "o" for _ in range(width)) for _ in range(height)]
    names = list(dict.fromkeys(some_name(generator, 8) for _ in range(generator.randrange(5))))
    for name in names:
        columns = generator.randint(1, 5)
        lines.append(f"sign {name}")
        lines += ["  " + "".join(generator.choice("#.") for _ in range(columns)) for _ in range(height)]
    for name in dict.fromkeys(some_name(generator, 8) for _ in range(generator.randint(1, 4))):
        lines.append(f"film {name}")
        lines += [some_scene(generator, names) for _ in range(generator.choice((1, 1, 2, 3)))]
    return "\n".join(lines)


def some_texts(generator, many, good=True):
    """So many different texts, good ones or any."""
    found = {}
    while len(found) < many:
        text = some_text(generator)
        if not good or read(text)[0] is None:
            found[text] = True
    return list(found)


def other_characters(generator, text, characters):
    """text with one character more, less or otherwise."""
    at = generator.randrange(len(text))
    new = generator.choice(characters)
    return generator.choice((text[:at] + text[at + 1:], text[:at] + new + text[at:], text[:at] + new + text[at + 1:]))


def other_lines(generator, text):
    """text with a line left out, twice, exchanged, moved or cut off, or with one that other lines are made of."""
    lines = text.split("\n")
    one, other = generator.randrange(len(lines)), generator.randrange(len(lines))
    way = generator.randrange(8)
    if way == 0:
        del lines[one]
    elif way == 1:
        lines.insert(one, lines[one])
    elif way == 2:
        lines[one], lines[other] = lines[other], lines[one]
    elif way == 3:
        lines.insert(other, lines.pop(one))
    elif way == 4:
        lines = lines[:one]
    elif way == 5:
        lines.insert(one, lines[other])
    elif way == 6:
        lines.append(lines[one])
    else:
        words = lines[one].split(" ")
        at = generator.randrange(len(words))
        words[at:at + 1] = generator.choice(([], [words[at]] * 2, [words[at], ""], [words[at - 1]], ["0"], ["12"], ["10"], ["a"]))
        lines[one] = " ".join(words)
    return "\n".join(lines)
