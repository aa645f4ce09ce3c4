"""Shelves of the copies of a history whose deeds strike what was put by deeds ahead of them."""

from heirstamps.dots import deed_dots, shelf_with
from heirstamps.errors import InvalidStrikes
from heirstamps.histories import check_deed, check_mark
from heirstamps.lots import is_lot_within
from heirstamps.standing import standing_behind


def _check_strikes(standing, value):
    """Raise InvalidStrikes(index) unless the value has for each deed a lot of those that its copy had heard then."""
    if type(value) is not tuple:
        raise InvalidStrikes(0)
    for index, known in enumerate(standing.known):
        if index == len(value) or not is_lot_within(value[index], known):
            raise InvalidStrikes(index)
    if len(value) > len(standing.known):
        raise InvalidStrikes(len(standing.known))


def _struck_standing(history, strikes, mark):
    """The standing behind the history; the errors of all three."""
    standing = standing_behind(history)
    _check_strikes(standing, strikes)
    check_mark(standing, mark)
    return standing


def _held(standing, strikes, mark):
    """The lot of the deeds that the copy has heard and that none which it has heard strikes."""
    heard = standing.heard_by[mark]
    struck = [deed for striking in heard for deed in strikes[striking]]
    return tuple([deed for deed in heard if deed not in struck])


def held(history, strikes, mark):
    """The lot of the deeds that the copy has heard and that none which it has heard strikes."""
    return _held(_struck_standing(history, strikes, mark), strikes, mark)


def struck_by(history, strikes, mark, deed):
    """The lot of the deeds that the copy has heard and that strike this one."""
    standing = _struck_standing(history, strikes, mark)
    check_deed(standing, deed)
    return tuple([striking for striking in standing.heard_by[mark] if deed in strikes[striking]])


def shelf_of(history, strikes, mark):
    """The shelf of the copy: its counts, and the dots of what it holds."""
    standing = _struck_standing(history, strikes, mark)
    dots = deed_dots(history)
    return shelf_with(standing.counts[mark], [dots[deed] for deed in _held(standing, strikes, mark)])


def all_struck(history):
    """The strikes by which each deed strikes all that its copy had heard, but itself."""
    standing = standing_behind(history)
    return tuple([tuple([deed for deed in known if deed != index]) for index, known in enumerate(standing.known)])
