"""Dots, which name deeds by counts alone, and shelves: what stands in a store by its dots."""

from heirstamps.counts import check_counts, is_counts, joined, raised, worth_at
from heirstamps.errors import InvalidDot, InvalidDots, InvalidShelf, TooMany
from heirstamps.histories import check_deed
from heirstamps.shares import check_share, is_path
from heirstamps.standing import Standing, standing_behind
from heirstamps.trees import bounded
from heirstamps.worths import greater_of, greatest, halves, whole

MOST_DOTS = 40


def is_dot(value):
    """Whether a value is a dot."""
    if type(value) is not tuple or len(value) != 2:
        return False
    return is_path(value[0]) and type(value[1]) is int and value[1] >= 1


def _check_dot(value):
    """Raise InvalidDot unless the value is a dot."""
    if not is_dot(value):
        raise InvalidDot("not a dot")


def _is_dots(value):
    """Whether a value is an ascending tuple of at most 40 dots."""
    if type(value) is not tuple or len(value) > MOST_DOTS or not all([is_dot(dot) for dot in value]):
        return False
    return all([value[at - 1] < value[at] for at in range(1, len(value))])


def _has(counts, dot):
    """Whether counts have a dot."""
    return worth_at(counts, dot[0])[0] >= dot[1]


def has_dot(counts, dot):
    """Whether the counts have the dot."""
    check_counts(counts)
    _check_dot(dot)
    return _has(counts, dot)


def dot_behind(share, counts):
    """The dot of a deed of a copy with both."""
    return _first_risen(counts, raised(share, counts))


def _first_risen(counts, later):
    """The dot of the first of the shortest paths whose parts all rise to one worth; None if there is none."""
    if type(later) is int and greatest(counts) < later:
        return ((), later)
    if type(later) is int and type(counts) is int:
        return None
    parts = halves(counts)
    later_parts = halves(later)
    for half in range(2):
        dot = _first_risen(parts[half], later_parts[half])
        if dot is not None:
            return ((half,) + dot[0], dot[1])
    return None


def least_counts(dots):
    """The counts that have all these dots, and are within all counts that do."""
    if not _is_dots(dots):
        raise InvalidDots("not an ascending tuple of at most 40 dots")
    counts = 0
    for path, worth in dots:
        counts = greater_of(counts, _counts_with(path, worth))
    return bounded(counts)


def _counts_with(path, worth):
    """The counts that have this worth at the path, and 0 everywhere else."""
    counts = worth
    for half in reversed(path):
        counts = whole(0, counts) if half == 1 else whole(counts, 0)
    return counts


def deed_dots(history):
    """The list of the dots of all deeds of what is surely a history."""
    standing = Standing()
    found = []
    for step in history:
        if step[0] == "deed":
            found.append(dot_behind(standing.shares[step[1]], standing.counts[step[1]]))
        standing.do(step)
    return found


def dot_of(history, deed):
    """The dot of this deed."""
    standing = standing_behind(history)
    check_deed(standing, deed)
    return deed_dots(history)[deed]


def deed_by(history, dot):
    """The deed whose dot it is; None if there is none."""
    standing_behind(history)
    _check_dot(dot)
    dots = deed_dots(history)
    if dot not in dots:
        return None
    return dots.index(dot)


def deeds_told(history, counts):
    """The lot of the deeds whose dots the counts have."""
    standing_behind(history)
    check_counts(counts)
    return tuple([deed for deed, dot in enumerate(deed_dots(history)) if _has(counts, dot)])


def is_shelf(value):
    """Whether a value is a shelf."""
    if type(value) is not tuple or len(value) != 2 or not is_counts(value[0]) or not _is_dots(value[1]):
        return False
    return all([_has(value[0], dot) for dot in value[1]])


def _check_shelf(value):
    """Raise InvalidShelf unless the value is a shelf."""
    if not is_shelf(value):
        raise InvalidShelf("not a shelf")


def shelf_with(counts, dots):
    """The shelf of counts and of a list of unlike dots that they have; TooMany(40) for more than 40 dots."""
    if len(dots) > MOST_DOTS:
        raise TooMany(MOST_DOTS)
    return (counts, tuple(sorted(dots)))


def merged(shelf, other_shelf):
    """The shelf of who has heard what stands behind both shelves."""
    _check_shelf(shelf)
    _check_shelf(other_shelf)
    counts, dots = shelf
    other_counts, other_dots = other_shelf
    both = joined(counts, other_counts)
    left = [dot for dot in dots if dot in other_dots or not _has(other_counts, dot)]
    return shelf_with(both, left + [dot for dot in other_dots if not _has(counts, dot)])


def _unstruck(share, shelf, dots):
    """The list of the dots of the shelf but for these, which must all be dots of it; the errors of put."""
    check_share(share)
    _check_shelf(shelf)
    if not _is_dots(dots) or not all([dot in shelf[1] for dot in dots]):
        raise InvalidDots("not an ascending tuple of dots of the shelf")
    return [dot for dot in shelf[1] if dot not in dots]


def put(share, shelf, dots):
    """The shelf behind a deed of a copy with the share that strikes these dots and puts something."""
    left = _unstruck(share, shelf, dots)
    counts = raised(share, shelf[0])
    return shelf_with(counts, left + [_first_risen(shelf[0], counts)])


def struck_off(share, shelf, dots):
    """The shelf behind a deed of a copy with the share that strikes these dots and puts nothing."""
    left = _unstruck(share, shelf, dots)
    return shelf_with(raised(share, shelf[0]), left)
