"""Sizes: how many tuples shares, counts and stamps have, and the row of all shares of a size."""

from heirstamps.counts import check_counts, is_stamp
from heirstamps.errors import InvalidCount, InvalidStamp, TooMany
from heirstamps.shares import check_share
from heirstamps.standing import stamps_along
from heirstamps.trees import DEEPEST, MOST_TUPLES, tuple_count

MOST_SHARES = 64


def share_size(share):
    """The size of a share."""
    check_share(share)
    return tuple_count(share)


def counts_size(counts):
    """The size of counts."""
    check_counts(counts)
    return tuple_count(counts)


def stamp_size(stamp):
    """The size of a stamp."""
    if not is_stamp(stamp):
        raise InvalidStamp("not a stamp")
    return size_of_stamp(stamp)


def size_of_stamp(stamp):
    """The size of what is surely a stamp."""
    return tuple_count(stamp[0]) + tuple_count(stamp[1])


def sizes(history):
    """The list that has, behind 0, 1, .. steps, the sum of the sizes of the stamps of all copies."""
    return [sum([size_of_stamp(stamp) for stamp in stamps]) for stamps in stamps_along(history)]


def split_paths(history):
    """The ascending list of the paths at which the share of some copy, at some time, has a tuple."""
    shares = [share for stamps in stamps_along(history) for share, _ in stamps]
    return sorted(set([path for share in shares for path in _tuple_paths(share)]))


def _tuple_paths(share):
    """The list of the paths at which a share has a tuple."""
    if type(share) is int:
        return []
    left = [(0,) + path for path in _tuple_paths(share[0])]
    return [()] + left + [(1,) + path for path in _tuple_paths(share[1])]


def _check_count(value):
    """Raise InvalidCount unless the value is an integer from 1 on."""
    if type(value) is not int or value < 1:
        raise InvalidCount("not an integer from 1 on")


def _check_number(value):
    """Raise InvalidCount unless the value is an integer from 0 on."""
    if type(value) is not int or value < 0:
        raise InvalidCount("not an integer from 0 on")


def least_total(count):
    """The least sum of the sizes of so many shares, none 0, that overlap nowhere and make 1."""
    return sum([tuple_count(share) for share in balanced(count)])


def balanced(count):
    """The list of so many shares, each of one path, of two lengths at most, that have the least sum of sizes."""
    _check_count(count)
    if count > MOST_SHARES:
        raise TooMany(MOST_SHARES)
    length = count.bit_length() - 1
    # Of the paths of this length so many first ones must be halved, for there to be enough.
    halved = count - (1 << length)
    longer = [_share_of_path(number, length + 1) for number in range(2 * halved)]
    return longer + [_share_of_path(number, length) for number in range(halved, 1 << length)]


def _share_of_path(number, length):
    """The share of the path of so many halves that has this number from the left."""
    share = 1
    for at in range(length):
        share = (0, share) if number >> at & 1 else (share, 0)
    return share


def _totals():
    """The list that has for each depth the list that tells how many shares, nested no deeper, have each size."""
    totals = [[2] + [0] * MOST_TUPLES]
    for _ in range(DEEPEST):
        ahead = totals[-1]
        row = [2]
        for size in range(1, MOST_TUPLES + 1):
            row.append(sum([ahead[left] * ahead[size - 1 - left] for left in range(size)]))
        # Two halves with the same number are no share.
        row[1] -= 2
        totals.append(row)
    return totals


def share_total(number):
    """How many shares have this size."""
    _check_number(number)
    if number > MOST_TUPLES:
        return 0
    return _totals()[DEEPEST][number]


def nth_share(number, index):
    """The share of this size with this index; None if there are not so many."""
    _check_number(number)
    _check_number(index)
    totals = _totals()
    if number > MOST_TUPLES or index >= totals[DEEPEST][number]:
        return None
    return _nth_share(totals[:DEEPEST], number, index)


def _nth_share(totals, size, index):
    """The share of this size with this index, whose halves are nested as deep as the last of the totals tells."""
    if size == 0:
        return index
    if size == 1:
        return (index, 1 - index)
    inner = totals[-1]
    left = 0
    while index >= inner[left] * inner[size - 1 - left]:
        index -= inner[left] * inner[size - 1 - left]
        left += 1
    right = size - 1 - left
    left_index, right_index = divmod(index, inner[right])
    return (_nth_share(totals[:-1], left, left_index), _nth_share(totals[:-1], right, right_index))


def share_rank(share):
    """The index of the share among the shares of its size."""
    check_share(share)
    return _share_rank(_totals()[:DEEPEST], share)


def _share_rank(totals, share):
    """The index of a share whose halves are nested as deep as the last of the totals tells."""
    if type(share) is int:
        return share
    size = tuple_count(share)
    if size == 1:
        return share[0]
    inner = totals[-1]
    left = tuple_count(share[0])
    ahead = sum([inner[less] * inner[size - 1 - less] for less in range(left)])
    return ahead + _share_rank(totals[:-1], share[0]) * inner[size - 1 - left] + _share_rank(totals[:-1], share[1])
