"""What shares and counts have in common: tuples in tuples, within bounds."""

from heirstamps.errors import TooMany

DEEPEST = 12
MOST_TUPLES = 63


def tuple_count(tree):
    """How many tuples a share or counts have."""
    if type(tree) is int:
        return 0
    return 1 + sum([tuple_count(part) for part in tree])


def depth_of(tree):
    """How deep the tuples of a share or of counts are nested."""
    if type(tree) is int:
        return 0
    return 1 + max([depth_of(part) for part in tree])


def bounded(tree):
    """The tree itself; TooMany(63) if it has more than 63 tuples."""
    if tuple_count(tree) > MOST_TUPLES:
        raise TooMany(MOST_TUPLES)
    return tree
