"""Whether two films can look alike, each of them with some dead wires."""

from wiresindark.apart import most_apart
from wiresindark.errors import BadLooks, BadNumber
from wiresindark.films import need_board_of, shown
from wiresindark.kinds import are_looks, has_form, is_ascending, is_integer_pair, is_number_to
from wiresindark.pictures import Dead
from wiresindark.sights import dead_of_wires, wires_at

MOST_WIRES = 4
NOTHING = ((), ())


def _need_sound(one, other, looks, k):
    need_board_of(one, other)
    if not are_looks(looks):
        raise BadLooks(looks)
    if not is_number_to(k, MOST_WIRES):
        raise BadNumber(k)


def _looks_by_dot(film, looks):
    """For each dot that film lights at some of the looks, these looks."""
    found = {}
    for tick in looks:
        for dot in film[tick].dots:
            found.setdefault(dot, []).append(tick)
    return found


def _is_met(dot, wires):
    by_row, by_column = wires_at(dot)
    return by_row in wires or by_column in wires


class Duties:
    """Which dots have to be met on which side. What is taken is a pair: the wires of side 0 and those of side 1."""

    def __init__(self, one, other, looks, k):
        first, second = _looks_by_dot(one, looks), _looks_by_dot(other, looks)
        self.most = k
        self.needed = (
            {dot: True for dot in first if first[dot] != second.get(dot)},
            {dot: True for dot in second if second[dot] != first.get(dot)},
        )
        # What both light at the same looks is met on both sides or on none.
        self.alike = {dot: True for dot in first if first[dot] == second.get(dot)}

    def is_unmet(self, side, dot, taken):
        """Whether dot has to be met on this side and is not."""
        if _is_met(dot, taken[side]):
            return False
        return dot in self.needed[side] or dot in self.alike and _is_met(dot, taken[1 - side])

    def unmet(self, side, taken):
        dots = sorted(list(self.needed[side]) + list(self.alike))
        return [dot for dot in dots if self.is_unmet(side, dot, taken)]


def _and_wire(taken, side, wire):
    """What is taken if wire is taken on this side in addition."""
    if side == 0:
        return taken[0] + (wire,), taken[1]
    return taken[0], taken[1] + (wire,)


def _search(duties, taken):
    """("taken", wires taken by which all is met) or ("apart", tree), read with what is taken."""
    unmet = [duties.unmet(side, taken) for side in (0, 1)]
    for side in (0, 1):
        room = duties.most - len(taken[side])
        dots = most_apart(unmet[side])
        if len(dots) > room:
            return "apart", ("more", side, dots[:room + 1])
    for side in (0, 1):
        if unmet[side]:
            return _split(duties, taken, side, unmet[side][0])
    return "taken", taken


def _split(duties, taken, side, dot):
    trees = []
    for wire in wires_at(dot):
        word, found = _search(duties, _and_wire(taken, side, wire))
        if word == "taken":
            return word, found
        trees.append(found)
    return "apart", ("split", side, dot, trees[0], trees[1])


def alike_by(one, other, looks, k):
    """Two Deads by which the films look alike, None if there are none. Here there can be any number of looks."""
    word, found = _search(Duties(one, other, looks, k), NOTHING)
    if word == "apart":
        return None
    return dead_of_wires(one.board, found[0]), dead_of_wires(one.board, found[1])


def mixed(one, other, looks, k):
    """Two Deads by which the films look alike, or a tree that shows that there are none."""
    _need_sound(one, other, looks, k)
    word, found = _search(Duties(one, other, looks, k), NOTHING)
    if word == "apart":
        return ("apart", found)
    return ("mixed", dead_of_wires(one.board, found[0]), dead_of_wires(one.board, found[1]))


def _is_dead(board, k, value):
    return isinstance(value, Dead) and value.board == board and len(value) <= k


def _is_more(duties, side, dots, taken):
    """Whether these are, side and dots being any values, too many dots for the wires that are left on this side."""
    if not is_number_to(side, 1) or not isinstance(dots, tuple):
        return False
    # The order and the wires come last: only pairs of integers have them for sure.
    if not all([is_integer_pair(dot) and duties.is_unmet(side, dot, taken) for dot in dots]) or not is_ascending(dots):
        return False
    if len({row for row, column in dots}) < len(dots) or len({column for row, column in dots}) < len(dots):
        return False
    return len(dots) + len(taken[side]) > duties.most


def _closes(duties, value, taken):
    """Whether any value is a tree that, read with what is taken, shows that nothing comes of it."""
    if has_form(value, "more", 3):
        return _is_more(duties, value[1], value[2], taken)
    if not has_form(value, "split", 5):
        return False
    side, dot = value[1], value[2]
    if not is_number_to(side, 1) or not is_integer_pair(dot) or not duties.is_unmet(side, dot, taken):
        return False
    by_row, by_column = [_and_wire(taken, side, wire) for wire in wires_at(dot)]
    return _closes(duties, value[3], by_row) and _closes(duties, value[4], by_column)


def shows_mixed(one, other, looks, k, value):
    """Whether any value is a correct result of mixed."""
    _need_sound(one, other, looks, k)
    if has_form(value, "apart", 2):
        return _closes(Duties(one, other, looks, k), value[1], NOTHING)
    if not has_form(value, "mixed", 3) or not all([_is_dead(one.board, k, dead) for dead in value[1:]]):
        return False
    return shown(one, looks, value[1]) == shown(other, looks, value[2])
