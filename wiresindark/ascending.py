"""What two ascending tuples have, as an ascending tuple."""


def in_either(one, other):
    return tuple(sorted(set(one) | set(other)))


def in_both(one, other):
    return tuple(sorted(set(one) & set(other)))


def in_one_alone(one, other):
    return tuple(sorted(set(one) - set(other)))


def in_just_one(one, other):
    return tuple(sorted(set(one) ^ set(other)))


def is_part(one, other):
    return len(set(one) - set(other)) == 0
