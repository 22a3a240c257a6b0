"""What was seen, as a text."""

from wiresindark.boards import DOT
from wiresindark.errors import BadSeen, BadText
from wiresindark.kinds import MOST_LOOKS
from wiresindark.lines import AHEAD, Reader, indented, number_behind
from wiresindark.pictures import LIT, drawn
from wiresindark.sights import are_seen_somewhere


def show_seen(seen):
    """The text of what was seen."""
    if not are_seen_somewhere(seen):
        raise BadSeen(seen)
    lines = []
    for tick, picture in seen:
        lines.append(f"look {tick}")
        lines.extend(indented(picture.rows))
    return "\n".join(lines)


def _picture(board, reader):
    """The picture whose rows come next."""
    rows = []
    for row in board.rows:
        line = reader.upcoming()
        if not line.startswith(AHEAD) or line[len(AHEAD):].replace(LIT, DOT) != row:
            raise BadText(reader.number)
        rows.append(line[len(AHEAD):])
        reader.go_on()
    return drawn(board, tuple(rows))


def read_seen(board, text):
    """What was seen, from its text."""
    if not isinstance(text, str):
        raise BadText(0)
    reader = Reader(text)
    seen = []
    while not seen or not reader.has_ended():
        tick = number_behind(reader.upcoming(), "look")
        if tick is None or len(seen) == MOST_LOOKS or seen and tick <= seen[-1][0]:
            raise BadText(reader.number)
        reader.go_on()
        seen.append((tick, _picture(board, reader)))
    return tuple(seen)
