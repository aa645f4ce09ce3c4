"""Stamps compared: part by part, several at once, and joined in any sequence."""

from heirstamps.counts import check_counts, is_counts, is_stamp, joined
from heirstamps.errors import (
    InvalidCount, InvalidCounts, InvalidLoose, InvalidRow, InvalidShare, InvalidStamp, InvalidWorths, Overlap, Refused,
)
from heirstamps.lots import all_lots, mask_of
from heirstamps.shares import is_share, paths_had, share_whole, united
from heirstamps.trees import DEEPEST, MOST_TUPLES, bounded, tuple_count
from heirstamps.unions import overlap_path, peaks_ahead, union_sizes
from heirstamps.worths import greater_of, halves, lesser_of, lifted, whole

MOST_TOGETHER = 8
MOST_HALVES = 8
WORTHS_LENGTHS = (1, 2, 4, 8, 16, 32, 64, 128, 256)


def above(counts, other_counts):
    """The share of all parts in which the first counts have a greater worth."""
    check_counts(counts)
    check_counts(other_counts)
    return bounded(_above_tree(counts, other_counts))


def _above_tree(counts, other_counts):
    """What above tells, whatever its size."""
    if type(counts) is int and type(other_counts) is int:
        return 1 if counts > other_counts else 0
    left, right = halves(counts)
    other_left, other_right = halves(other_counts)
    return share_whole(_above_tree(left, other_left), _above_tree(right, other_right))


def met(counts, other_counts):
    """The counts whose worth is at each part the lesser one."""
    check_counts(counts)
    check_counts(other_counts)
    return bounded(lesser_of(counts, other_counts))


def _check_several(value):
    """Raise InvalidCounts unless the value is a tuple of at most eight counts."""
    if type(value) is not tuple or len(value) > MOST_TOGETHER or not all([is_counts(part) for part in value]):
        raise InvalidCounts("not a tuple of at most eight counts")


def covers(several, counts):
    """Whether at each part the worth of the counts is 0, or one of the several has at least this worth."""
    _check_several(several)
    check_counts(counts)
    return _bare_tree(several, counts) == 0


def bare_path(several, counts):
    """The first of the shortest paths at which the counts are bare; None if there is none."""
    _check_several(several)
    check_counts(counts)
    paths = [(len(path), path) for path in paths_had(_bare_tree(several, counts))]
    if not paths:
        return None
    return min(paths)[1]


def _bare_tree(several, counts):
    """The share of all parts at which the counts are bare, whatever its size."""
    together = 0
    for one in several:
        together = greater_of(together, one)
    return _above_tree(counts, together)


def least_cover(several, counts):
    """The first lot, in lot order, of indexes of the several that cover the counts alone; None if there is none."""
    _check_several(several)
    check_counts(counts)
    masks = _reaching_masks(several, counts)
    for lot in all_lots(list(range(len(several)))):
        taken = mask_of(lot)
        if all([taken & mask != 0 for mask in masks]):
            return lot
    return None


def needed(several, counts):
    """The lot of the indexes that are in each lot of the several that cover the counts; None if none does."""
    _check_several(several)
    check_counts(counts)
    masks = _reaching_masks(several, counts)
    if 0 in masks:
        return None
    return tuple([index for index in range(len(several)) if 1 << index in masks])


def _reaching_masks(several, counts):
    """The masks, each once, of those of the several that reach the worth of a part, of all parts with one above 0."""
    found = {}
    _gather_masks(several, counts, found)
    return list(found)


def _gather_masks(several, counts, found):
    """Make a key of each mask of _reaching_masks."""
    if type(counts) is int and all([type(one) is int for one in several]):
        if counts > 0:
            found[mask_of([index for index, one in enumerate(several) if one >= counts])] = True
        return
    parts = [halves(one) for one in several]
    left, right = halves(counts)
    _gather_masks([part[0] for part in parts], left, found)
    _gather_masks([part[1] for part in parts], right, found)


def is_loose(value):
    """Whether a value is a loose tree."""
    return _is_loose_tree(value, DEEPEST) and tuple_count(value) <= MOST_TUPLES


def _is_loose_tree(value, deepest):
    """Whether a value is a loose tree but for the number of its tuples."""
    if type(value) is int:
        return value >= 0
    if type(value) is not tuple or len(value) != 3 or deepest == 0:
        return False
    if type(value[0]) is not int or value[0] < 0:
        return False
    return _is_loose_tree(value[1], deepest - 1) and _is_loose_tree(value[2], deepest - 1)


def least_form(loose):
    """The counts that have the same worth at each part as a loose tree."""
    if not is_loose(loose):
        raise InvalidLoose("not a loose tree")
    return _least_form_of(loose)


def _least_form_of(loose):
    """The counts with the worths of what is surely a loose tree."""
    if type(loose) is int:
        return loose
    return lifted(whole(_least_form_of(loose[1]), _least_form_of(loose[2])), loose[0])


def spread(counts, number):
    """The tuple of the worths of all parts that are named by paths of so many halves, from the left."""
    check_counts(counts)
    if type(number) is not int or number < 0 or number > MOST_HALVES:
        raise InvalidCount("not an integer from 0 to 8")
    parts = [counts]
    for _ in range(number):
        parts = [half for part in parts for half in halves(part)]
    if any([type(part) is tuple for part in parts]):
        raise Refused("a path of so many halves names parts of unlike worth")
    return tuple(parts)


def _is_worths(value):
    """Whether a value is a tuple of 1, 2, 4, .. or 256 integers from 0 on."""
    if type(value) is not tuple or len(value) not in WORTHS_LENGTHS:
        return False
    return all([type(worth) is int and worth >= 0 for worth in value])


def gathered(worths):
    """The counts whose parts, all of as many halves, have these worths from the left."""
    if not _is_worths(worths):
        raise InvalidWorths("not a tuple of 1, 2, 4, .. or 256 integers from 0 on")
    parts = list(worths)
    while len(parts) > 1:
        parts = [whole(parts[at], parts[at + 1]) for at in range(0, len(parts), 2)]
    return bounded(parts[0])


def _check_stamps(value):
    """Raise InvalidStamp unless the value is a tuple of one to eight stamps."""
    if type(value) is not tuple or len(value) == 0 or len(value) > MOST_TOGETHER:
        raise InvalidStamp("not a tuple of one to eight stamps")
    if not all([is_stamp(part) for part in value]):
        raise InvalidStamp("not a tuple of stamps")


def put_together(stamps):
    """The stamp of all, joined one by one from the left."""
    _check_stamps(stamps)
    share, counts = stamps[0]
    for next_share, next_counts in stamps[1:]:
        share = united(share, next_share)
        counts = joined(counts, next_counts)
    return (share, counts)


def _check_shares(value):
    """Raise InvalidShare unless the value is a tuple of one to eight shares."""
    if type(value) is not tuple or len(value) == 0 or len(value) > MOST_TOGETHER:
        raise InvalidShare("not a tuple of one to eight shares")
    if not all([is_share(part) for part in value]):
        raise InvalidShare("not a tuple of shares")


def _check_row(shares, value):
    """Raise InvalidRow unless the value is a tuple of all indexes of the shares, each once."""
    if type(value) is not tuple or not all([type(index) is int for index in value]):
        raise InvalidRow("not a tuple of indexes")
    if sorted(value) != list(range(len(shares))):
        raise InvalidRow("not all indexes of the shares, each once")


def _check_apart(shares):
    """Raise Overlap(path) if one of the shares has a part in common with those ahead of it."""
    path = overlap_path(shares)
    if path is not None:
        raise Overlap(path)


def peak(shares, row):
    """The greatest number of tuples of what is united when the shares are taken in this sequence."""
    _check_shares(shares)
    _check_row(shares, row)
    _check_apart(shares)
    sizes = union_sizes(shares)
    return max([sizes[mask_of(row[:taken])] for taken in range(1, len(row) + 1)])


def least_peak(shares):
    """The least peak of all sequences of the shares."""
    _check_shares(shares)
    _check_apart(shares)
    return peaks_ahead(union_sizes(shares))[0]


def best_row(shares):
    """The first row, as Python orders tuples, with the least peak."""
    _check_shares(shares)
    _check_apart(shares)
    peaks = peaks_ahead(union_sizes(shares))
    row = ()
    while len(row) < len(shares):
        mask = mask_of(row)
        left = [index for index in range(len(shares)) if index not in row]
        row += (min([index for index in left if peaks[mask | 1 << index] <= peaks[0]]),)
    return row
