"""Histories: steps of copies that fork, do deeds, hear one another, join and go."""

from heirstamps.errors import InvalidCount, InvalidDeed, InvalidHistory, InvalidMark
from heirstamps.standing import standing_behind


def is_history(value):
    """Whether a value is a history."""
    try:
        standing_behind(value)
    except InvalidHistory:
        return False
    return True


def marks(history):
    """The lot of the marks of the copies that are there."""
    standing = standing_behind(history)
    return tuple(sorted(standing.shares))


def check_mark(standing, value):
    """Raise InvalidMark unless the value is the mark of a copy that is there."""
    if not standing.has(value):
        raise InvalidMark("not the mark of a copy that is there")


def check_deed(standing, value):
    """Raise InvalidDeed unless the value is the number of a deed."""
    if type(value) is not int or value < 0 or value >= len(standing.doers):
        raise InvalidDeed("not the number of a deed of the history")


def stamp_of(history, mark):
    """The stamp of the copy."""
    standing = standing_behind(history)
    check_mark(standing, mark)
    return standing.stamp_at(mark)


def heard(history, mark):
    """The lot of the deeds that the copy has heard."""
    standing = standing_behind(history)
    check_mark(standing, mark)
    return standing.heard_by[mark]


def deeds(history):
    """The list that has for each deed the mark of the copy that did it."""
    standing = standing_behind(history)
    return list(standing.doers)


def known_at(history, count):
    """The lot of the deeds that the copy that did the count-th deed had heard then."""
    standing = standing_behind(history)
    if type(count) is not int or count < 1 or count > len(standing.known):
        raise InvalidCount("not a number of deeds that have been done")
    return standing.known[count - 1]
