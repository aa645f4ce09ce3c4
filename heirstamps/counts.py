"""Counts: how often each part of the whole has done a deed, as far as a copy has heard."""

from heirstamps.errors import InvalidCounts, Refused
from heirstamps.reader import DIGITS, Reader
from heirstamps.shares import check_path, check_share, is_share, owned_paths
from heirstamps.trees import DEEPEST, MOST_TUPLES, bounded, tuple_count
from heirstamps.worths import filled, greater_of, greatest, grown, halves, least, new_tuples, nowhere_greater


def is_counts(value):
    """Whether a value is counts."""
    return _is_counts_tree(value, DEEPEST) and tuple_count(value) <= MOST_TUPLES


def _is_counts_tree(value, deepest):
    """Whether a value is counts but for the number of its tuples."""
    if type(value) is int:
        return value >= 0
    if type(value) is not tuple or len(value) != 3 or deepest == 0:
        return False
    base, left, right = value
    if type(base) is not int or base < 0:
        return False
    if not _is_counts_tree(left, deepest - 1) or not _is_counts_tree(right, deepest - 1):
        return False
    if type(left) is int and left == right:
        return False
    return least(left) == 0 or least(right) == 0


def check_counts(value):
    """Raise InvalidCounts unless the value is counts."""
    if not is_counts(value):
        raise InvalidCounts("not counts")


def worth_at(counts, path):
    """The least and the greatest worth of a part of what the path names."""
    check_counts(counts)
    check_path(path)
    part = counts
    for half in path:
        part = halves(part)[half]
    return (least(part), greatest(part))


def joined(counts, other_counts):
    """The counts whose worth is at each part the greater one."""
    check_counts(counts)
    check_counts(other_counts)
    return bounded(greater_of(counts, other_counts))


def is_within(counts, other_counts):
    """Whether no part has a greater worth in the first counts."""
    check_counts(counts)
    check_counts(other_counts)
    return nowhere_greater(counts, other_counts)


def raised(share, counts):
    """The counts behind a deed of a copy with both."""
    check_share(share)
    check_counts(counts)
    if share == 0:
        raise Refused("a copy with the share 0 can do no deed")
    full = filled(share, counts)
    if full != counts:
        return full
    places = [(new_tuples(counts, path), len(path), path) for path in owned_paths(share)]
    return bounded(grown(counts, min(places)[2]))


def counts_text(counts):
    """The text of counts."""
    check_counts(counts)
    return _text_of(counts)


def _text_of(counts):
    """The text of what is surely counts."""
    if type(counts) is int:
        return str(counts)
    return f"({counts[0]},{_text_of(counts[1])},{_text_of(counts[2])})"


def counts_told(text):
    """The counts with this text."""
    reader = Reader(text)
    counts = _take_counts(reader, DIGITS)
    reader.finish()
    return counts


def _take_counts(reader, firsts):
    """Go past the text of counts; if this is a number, then of one that begins with one of these."""
    if not reader.sees("("):
        return reader.take_number(firsts)
    reader.begin_tuple()
    # The first number of a tuple is its least worth, so where this must be 0, no other one can stand.
    base = reader.take_number("0" if firsts == "0" else DIGITS)
    reader.take(",")
    left = _take_counts(reader, DIGITS)
    reader.take(",")
    right = _take_counts(reader, _firsts_beside(left))
    reader.end_tuple()
    return (base, left, right)


def _firsts_beside(left):
    """The digits with which a number can begin as the right half beside this left one."""
    if least(left) > 0:
        return "0"
    if left == 0:
        return "123456789"
    return DIGITS


def is_stamp(value):
    """Whether a value is a stamp."""
    if type(value) is not tuple or len(value) != 2:
        return False
    return is_share(value[0]) and is_counts(value[1])
