"""Which truths can be mixed up at which looks, and how long one has to look until none can."""

from math import lcm

from wiresindark.errors import BadFilms, BadLooks, BadNumber, BadOffers, BadParts
from wiresindark.films import are_films, truths_of
from wiresindark.kinds import are_looks, is_ascending, is_integer_pair, is_number_to, is_tick
from wiresindark.lines import is_name
from wiresindark.mixing import alike_by
from wiresindark.subsets import subsets_by_length, subsets_of

MOST_WIRES = 4
MOST_OFFERS = 5
MOST_PRICE = 9


def _need_films(films):
    if not are_films(films):
        raise BadFilms(films)


def _need_looks(looks):
    if not are_looks(looks):
        raise BadLooks(looks)


def _need_number(k):
    if not is_number_to(k, MOST_WIRES):
        raise BadNumber(k)


def _are_names(value, many):
    return isinstance(value, tuple) and len(value) == many and all([is_name(name) for name in value])


def _need_parts(films, parts):
    if parts is None:
        return
    # The lengths come first: only then each film has a tuple of its own.
    if not isinstance(parts, tuple) or len(parts) != len(films):
        raise BadParts(parts)
    if not all([_are_names(names, len(film)) for film, names in zip(films, parts)]):
        raise BadParts(parts)


def _is_offer(value):
    return is_integer_pair(value) and is_tick(value[0]) and is_number_to(value[1], MOST_PRICE)


def _need_offers(offers):
    if not isinstance(offers, tuple) or not 1 <= len(offers) <= MOST_OFFERS:
        raise BadOffers(offers)
    # The ticks have to ascend by themselves: none of them is offered at two prices.
    if not all([_is_offer(offer) for offer in offers]) or not is_ascending([offer[0] for offer in offers]):
        raise BadOffers(offers)


class Rivals:
    """Two truths, the lesser one first, and the films that they are."""

    def __init__(self, films, truth, second):
        self.truths = (truth, second)
        self.one = films[truth[0]] >> truth[1]
        self.another = films[second[0]] >> second[1]

    def are_unlike(self, parts):
        if parts is None:
            return not self.one.shows(self.another)
        first, second = [parts[number][begin] for number, begin in self.truths]
        return first != second

    def all_ticks(self):
        """So many ticks that both films have come round together behind them."""
        return list(range(lcm(len(self.one), len(self.another))))

    def mix_up(self, looks, k):
        """(truth, truth, dead, dead), None if they cannot be mixed up at these looks."""
        deads = alike_by(self.one, self.another, looks, k)
        return None if deads is None else self.truths + deads


def _unlike_truths(films, parts):
    """The Rivals for all pairs of unlike truths, ascending."""
    truths = truths_of(films)
    pairs = [Rivals(films, truth, second) for truth in truths for second in truths if truth < second]
    return [rivals for rivals in pairs if rivals.are_unlike(parts)]


def _first_mix_up(pairs, looks, k):
    for rivals in pairs:
        found = rivals.mix_up(looks, k)
        if found is not None:
            return found
    return None


def sure(films, looks, k, parts=None):
    """The mix-up at these looks, None if one knows then what runs."""
    _need_films(films)
    _need_looks(looks)
    _need_number(k)
    _need_parts(films, parts)
    return _first_mix_up(_unlike_truths(films, parts), looks, k)


def _first_for_ever(pairs, k):
    """The mix-up of the first pair that no number of looks keeps apart."""
    for rivals in pairs:
        found = rivals.mix_up(rivals.all_ticks(), k)
        if found is not None:
            return found
    return None


def _many_looks(pairs, k):
    """How many looks are needed so that no pair can be mixed up, if they are enough some time."""
    many = 0
    for rivals in pairs:
        # Without a look any two look alike; and what so many looks keep apart, more of them do, too.
        while rivals.mix_up(list(range(many)), k) is not None:
            many = many + 1
    return many


def wait(films, k, parts=None):
    """(many, mix-up): so many looks from tick 0 on are needed; the mix-up is that of one look less, or for ever."""
    _need_films(films)
    _need_number(k)
    _need_parts(films, parts)
    pairs = _unlike_truths(films, parts)
    found = _first_for_ever(pairs, k)
    if found is not None:
        return None, found
    many = _many_looks(pairs, k)
    if many <= 1:
        return many, None
    return many, _first_mix_up(pairs, list(range(many - 1)), k)


def most_dead(films, looks, parts=None):
    """(k, mix-up): with so many dead wires one knows what runs; the mix-up is that of one wire more."""
    _need_films(films)
    _need_looks(looks)
    _need_parts(films, parts)
    pairs = _unlike_truths(films, parts)
    for k in range(MOST_WIRES + 1):
        found = _first_mix_up(pairs, looks, k)
        if found is not None:
            return (None if k == 0 else k - 1), found
    return MOST_WIRES, None


def _choices(offers):
    """(price, ticks) of all choices, in order."""
    found = [some for some in subsets_of(offers) if some]
    return sorted([(sum([price for tick, price in some]), tuple([tick for tick, price in some])) for some in found])


def choose(films, offers, k, parts=None):
    """The cheapest looks at which one knows what runs, with the mix-ups at all choices ahead of them."""
    _need_films(films)
    _need_offers(offers)
    _need_number(k)
    _need_parts(films, parts)
    pairs = _unlike_truths(films, parts)
    mix_ups = []
    for price, ticks in _choices(offers):
        found = _first_mix_up(pairs, ticks, k)
        if found is None:
            return ("looks", ticks, price, tuple(mix_ups))
        mix_ups.append(found)
    return ("none", tuple(mix_ups))


def _can_be_mixed(films, one, other, looks, k):
    """Whether some truths of these two films can be mixed up, alike or not."""
    for begin in range(len(films[one])):
        for second in range(len(films[other])):
            if Rivals(films, (one, begin), (other, second)).mix_up(looks, k) is not None:
                return True
    return False


def mixups(films, looks, k):
    """The pairs of numbers of films of which some truths can be mixed up."""
    _need_films(films)
    _need_looks(looks)
    _need_number(k)
    many = len(films)
    pairs = [(one, other) for one in range(many) for other in range(one + 1, many)]
    return tuple([pair for pair in pairs if _can_be_mixed(films, pair[0], pair[1], looks, k)])


def _has_both(numbers, pair):
    return pair[0] in numbers and pair[1] in numbers


def clear(films, looks, k):
    """The numbers of as many films as possible, no two of which can be mixed up."""
    pairs = mixups(films, looks, k)
    kept = []
    for numbers in subsets_by_length(list(range(len(films)))):
        # Of those with the most numbers the first one stays.
        if len(numbers) > len(kept) and not any([_has_both(numbers, pair) for pair in pairs]):
            kept = list(numbers)
    return tuple(kept)
