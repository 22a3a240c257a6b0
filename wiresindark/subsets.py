"""All choices of some of a few things."""


def subsets_of(members):
    """All tuples of some of the members, in the order in which these stand; the empty one comes first."""
    found = [()]
    for member in members:
        found = found + [some + (member,) for some in found]
    return found


def subsets_by_length(members):
    """As subsets_of, the shorter ones first, and those of one length ascending."""
    return [some for many, some in sorted([(len(some), some) for some in subsets_of(members)])]
