"""What was seen at some looks, and which wires may be dead at each of them."""

from wiresindark.ascending import in_one_alone
from wiresindark.kinds import are_looks, is_ascending, is_pair, is_word_and_integer
from wiresindark.pictures import Dead, Picture


def are_seen(board, value):
    """Whether any value is a tuple of pairs (tick, picture) that can be seen on board."""
    if not isinstance(value, tuple) or not all([is_pair(look) for look in value]):
        return False
    if not are_looks(tuple([look[0] for look in value])):
        return False
    return all([isinstance(look[1], Picture) and look[1].board == board for look in value])


def are_seen_somewhere(value):
    """Whether any value is a tuple of pairs (tick, picture) that can be seen on any board."""
    if not isinstance(value, tuple) or not value or not is_pair(value[0]):
        return False
    return isinstance(value[0][1], Picture) and are_seen(value[0][1].board, value)


def are_wires(board, value):
    """Whether any value is an ascending tuple of wires of board."""
    if not isinstance(value, tuple):
        return False
    # The kind is asked first, since ("row", True) would be equal to ("row", 1).
    return all([is_word_and_integer(wire) and wire in board.wires for wire in value]) and is_ascending(value)


def wires_at(dot):
    """The wires at which a dot hangs."""
    row, column = dot
    return ("row", row), ("column", column)


def dead_of_wires(board, wires):
    rows = sorted([number for kind, number in wires if kind == "row"])
    columns = sorted([number for kind, number in wires if kind == "column"])
    return Dead(board, tuple(rows), tuple(columns))


def _wires_lit(picture):
    """The wires that surely live, since one of their dots is lit."""
    return list({wire: True for dot in picture.dots for wire in wires_at(dot)})


class Sight:
    """What was seen. A look is told by its place, counted from 0."""

    def __init__(self, seen, alive, dying):
        self.ticks = [look[0] for look in seen]
        self.pictures = [look[1] for look in seen]
        self.alive = alive
        # No other value than True itself says that wires may die.
        self.dying = dying is True
        wires = [_wires_lit(picture) for picture in self.pictures]
        self._living = []
        for place in range(len(seen)):
            lit = [wire for witness in self.witnesses(place) for wire in wires[witness]]
            self._living.append({wire: True for wire in list(alive) + lit})

    def witnesses(self, place):
        """The places of the looks that tell which wires live at this place."""
        return list(range(place if self.dying else 0, len(self.ticks)))

    def may_be_dead(self, wire, place):
        return wire not in self._living[place]

    def may_be_dead_at_last(self, wire):
        return self.may_be_dead(wire, len(self.ticks) - 1)

    def proofs(self, wire, place):
        """All that shows that this wire lives at this place: () or pairs (tick, dot)."""
        found = [()] if wire in self.alive else []
        for witness in self.witnesses(place):
            dots = [dot for dot in self.pictures[witness].dots if wire in wires_at(dot)]
            found.extend([(self.ticks[witness], dot) for dot in dots])
        return found

    def strays(self, film):
        """The pairs (tick, dot) of what was seen lit and the film does not light then."""
        found = []
        for tick, picture in zip(self.ticks, self.pictures):
            found.extend([(tick, dot) for dot in in_one_alone(picture.dots, film[tick].dots)])
        return found

    def missing(self, film):
        """The pairs (place, dot) of what the film lights and was seen dark."""
        found = []
        for place in range(len(self.ticks)):
            lit = film[self.ticks[place]].dots
            found.extend([(place, dot) for dot in in_one_alone(lit, self.pictures[place].dots)])
        return found
