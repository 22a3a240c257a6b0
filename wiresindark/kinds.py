"""Tests that take any value and tell whether it is of a certain kind."""

MOST_LOOKS = 12


def is_integer(value):
    """True and False are ints for Python, but no integers here."""
    return isinstance(value, int) and not isinstance(value, bool)


def is_pair(value):
    return isinstance(value, tuple) and len(value) == 2


def is_integer_pair(value):
    return is_pair(value) and is_integer(value[0]) and is_integer(value[1])


def is_word_and_integer(value):
    return is_pair(value) and isinstance(value[0], str) and is_integer(value[1])


def has_form(value, word, length):
    """Whether any value is a tuple of this length that begins with this word."""
    return isinstance(value, tuple) and len(value) == length and value[0] == word


def is_ascending(members):
    """The members are all of a kind that has an order."""
    return all([members[place] < members[place + 1] for place in range(len(members) - 1)])


def are_numbers(value, many):
    """Whether any value is an ascending tuple of integers from 0 to less than many."""
    if not isinstance(value, tuple):
        return False
    # The order comes last: only integers can be compared with one another.
    return all([is_integer(number) and 0 <= number < many for number in value]) and is_ascending(value)


def is_tick(value):
    return is_integer(value) and value >= 0


def is_number_to(value, most):
    """Whether any value is an integer from 0 to most."""
    return is_tick(value) and value <= most


def are_looks(value):
    """Whether any value is an ascending tuple of 1 to 12 ticks."""
    if not isinstance(value, tuple) or not 1 <= len(value) <= MOST_LOOKS:
        return False
    return all([is_tick(tick) for tick in value]) and is_ascending(value)
