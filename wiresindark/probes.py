"""Test pictures: which of them tell apart whatever wires are dead."""

from wiresindark.errors import BadNumber, BadOffers
from wiresindark.kinds import is_number_to
from wiresindark.pictures import Picture
from wiresindark.sights import dead_of_wires, wires_at
from wiresindark.subsets import subsets_by_length

MOST_OFFERS = 6
MOST_WIRES = 3


def _are_offers(board, value):
    if not isinstance(value, tuple) or not 1 <= len(value) <= MOST_OFFERS:
        return False
    return all([isinstance(picture, Picture) and picture.board == board for picture in value])


def _bits_of_dots(board, dots):
    bits = 0
    for place in range(len(board.dots)):
        if board.dots[place] in dots:
            bits = bits | 1 << place
    return bits


def _all_deads(board, k):
    """(wires, bits of the dots that they meet) for all sets of at most k wires."""
    found = [((), 0)]
    for wire in board.wires:
        met = _bits_of_dots(board, [dot for dot in board.dots if wire in wires_at(dot)])
        found = found + [(wires + (wire,), bits | met) for wires, bits in found if len(wires) < k]
    return found


def _not_told_apart(deads, lit):
    """Two that meet unlike dots, but the same of those that are lit; None if there are none."""
    first = {}
    for wires, met in deads:
        others, others_met = first.setdefault(met & lit, (wires, met))
        if others_met != met:
            return others, wires
    return None


def _lit_by(pictures, numbers):
    """The bits of what at least one of these pictures lights: more of them tell no more apart."""
    lit = 0
    for number in numbers:
        lit = lit | pictures[number]
    return lit


def probes(board, offers, k):
    """The fewest of the pictures that tell all Deads of at most k wires apart, or two Deads that not even all do."""
    if not _are_offers(board, offers):
        raise BadOffers(offers)
    if not is_number_to(k, MOST_WIRES):
        raise BadNumber(k)
    deads = _all_deads(board, k)
    pictures = [_bits_of_dots(board, picture.dots) for picture in offers]
    numbers = list(range(len(offers)))
    alike = _not_told_apart(deads, _lit_by(pictures, numbers))
    if alike is not None:
        return ("none", dead_of_wires(board, alike[0]), dead_of_wires(board, alike[1]))
    enough = [some for some in subsets_by_length(numbers) if _not_told_apart(deads, _lit_by(pictures, some)) is None]
    return ("probes", enough[0])
