"""Shares of the whole: what a copy has of the halves of halves."""

from heirstamps.errors import InvalidPath, InvalidShare, Overlap, Refused, TooMany
from heirstamps.reader import Reader
from heirstamps.trees import DEEPEST, MOST_TUPLES, bounded, depth_of, tuple_count


def is_share(value):
    """Whether a value is a share."""
    return _is_share_tree(value, DEEPEST) and tuple_count(value) <= MOST_TUPLES


def _is_share_tree(value, deepest):
    """Whether a value is a share but for the number of its tuples."""
    if type(value) is int:
        return value == 0 or value == 1
    if type(value) is not tuple or len(value) != 2 or deepest == 0:
        return False
    if value == (0, 0) or value == (1, 1):
        return False
    return _is_share_tree(value[0], deepest - 1) and _is_share_tree(value[1], deepest - 1)


def check_share(value):
    """Raise InvalidShare unless the value is a share."""
    if not is_share(value):
        raise InvalidShare("not a share")


def is_path(value):
    """Whether a value is a path."""
    if type(value) is not tuple or len(value) > DEEPEST:
        return False
    return all([type(half) is int and (half == 0 or half == 1) for half in value])


def check_path(value):
    """Raise InvalidPath unless the value is a path."""
    if not is_path(value):
        raise InvalidPath("not a path")


def share_halves(share):
    """What a share has of the left half, and of the right half, as shares of these."""
    if type(share) is int:
        return (share, share)
    return share


def share_whole(left, right):
    """The share that has these shares of its halves."""
    if type(left) is int and left == right:
        return left
    return (left, right)


def share_at(share, path):
    """What the share has of what the path names, as a share of this."""
    check_share(share)
    check_path(path)
    part = share
    for half in path:
        part = share_halves(part)[half]
    return part


def halved(share):
    """The two shares of a copy with this share and of its fork."""
    check_share(share)
    if share == 0:
        raise Refused("the share 0 cannot be halved")
    kept, given = _two_halves(share)
    if depth_of(kept) > DEEPEST or depth_of(given) > DEEPEST:
        raise TooMany(DEEPEST)
    return (kept, given)


def _two_halves(share):
    """The halved shares of a share that is not 0, however deep they are nested."""
    if share == 1:
        return ((1, 0), (0, 1))
    left, right = share
    if left == 0:
        kept, given = _two_halves(right)
        return ((0, kept), (0, given))
    if right == 0:
        kept, given = _two_halves(left)
        return ((kept, 0), (given, 0))
    return ((left, 0), (0, right))


def united(share, other_share):
    """The share that has what both have, which must not overlap."""
    check_share(share)
    check_share(other_share)
    path = first_common_path(share, other_share)
    if path is not None:
        raise Overlap(path)
    return bounded(united_tree(share, other_share))


def first_common_path(share, other_share):
    """The first of the shortest paths that both shares have; None if there is none."""
    if share == 0 or other_share == 0:
        return None
    if share == 1 and other_share == 1:
        return ()
    parts = share_halves(share)
    other_parts = share_halves(other_share)
    for half in range(2):
        path = first_common_path(parts[half], other_parts[half])
        if path is not None:
            return (half,) + path
    return None


def united_tree(share, other_share):
    """What is united of shares that do not overlap, whatever its size."""
    if share == 0:
        return other_share
    if other_share == 0:
        return share
    left = united_tree(share[0], other_share[0])
    right = united_tree(share[1], other_share[1])
    return share_whole(left, right)


def less(share, other_share):
    """The share of what the first share has and the other one has not."""
    check_share(share)
    check_share(other_share)
    return bounded(less_tree(share, other_share))


def less_tree(share, other_share):
    """What the first share has and the other one has not, whatever its size."""
    if share == 0 or other_share == 1:
        return 0
    if other_share == 0:
        return share
    left, right = share_halves(share)
    other_left, other_right = other_share
    return share_whole(less_tree(left, other_left), less_tree(right, other_right))


def owned_paths(share):
    """The ascending list of the shortest paths that the share has."""
    check_share(share)
    return paths_had(share)


def paths_had(share):
    """The ascending list of the shortest paths that a share has, whatever its size."""
    if share == 0:
        return []
    if share == 1:
        return [()]
    left = [(0,) + path for path in paths_had(share[0])]
    return left + [(1,) + path for path in paths_had(share[1])]


def share_text(share):
    """The text of a share."""
    check_share(share)
    return _text_of(share)


def _text_of(share):
    """The text of what is surely a share."""
    if type(share) is int:
        return str(share)
    return f"({_text_of(share[0])},{_text_of(share[1])})"


def share_told(text):
    """The share with this text."""
    reader = Reader(text)
    share = _take_share(reader, "01")
    reader.finish()
    return share


def _take_share(reader, numbers):
    """Go past the text of a share; if this is a number, then of one of these."""
    if not reader.sees("("):
        return int(reader.take(numbers))
    reader.begin_tuple()
    left = _take_share(reader, "01")
    reader.take(",")
    # Two halves with the same number are no share, so beside a number only the other one may stand.
    right = _take_share(reader, "01" if type(left) is tuple else str(1 - left))
    reader.end_tuple()
    return (left, right)
