"""Words of bits: what a copy has heard, as far as a few marked remainders can tell."""

from heirstamps.errors import InvalidCount
from heirstamps.histories import check_mark
from heirstamps.lots import is_part, lot_of
from heirstamps.standing import standing_behind

GREATEST_SIZE = 64
MOST_BITS = 4


def _check_size(value):
    """Raise InvalidCount unless the value is an integer from 1 to 64."""
    if type(value) is not int or value < 1 or value > GREATEST_SIZE:
        raise InvalidCount("not an integer from 1 to 64")


def _check_bits(value):
    """Raise InvalidCount unless the value is an integer from 1 to 4."""
    if type(value) is not int or value < 1 or value > MOST_BITS:
        raise InvalidCount("not an integer from 1 to 4")


def _word_mask(deeds, size, bits):
    """The mask of the remainders that these deeds mark."""
    mask = 0
    for deed in deeds:
        for bit in range(bits):
            mask |= 1 << ((deed + 1) * (2 * bit + 1) + bit) % size
    return mask


def word_of(history, mark, size, bits):
    """The lot of the remainders that the deeds that the copy has heard mark."""
    standing = standing_behind(history)
    check_mark(standing, mark)
    _check_size(size)
    _check_bits(bits)
    return lot_of(_word_mask(standing.heard_by[mark], size, bits))


def seems(history, mark, other_mark, size, bits):
    """Whether by their words the first copy seems to have heard all that the other one has."""
    standing = standing_behind(history)
    check_mark(standing, mark)
    check_mark(standing, other_mark)
    _check_size(size)
    _check_bits(bits)
    word = _word_mask(standing.heard_by[mark], size, bits)
    return is_part(_word_mask(standing.heard_by[other_mark], size, bits), word)


def _unheard_pairs(standing):
    """The ascending list of the pairs of marks of which the first copy has not heard all that the other one has."""
    heard_by = standing.heard_by
    there = sorted(heard_by)
    pairs = [(mark, other_mark) for mark in there for other_mark in there]
    return [pair for pair in pairs if not all([deed in heard_by[pair[0]] for deed in heard_by[pair[1]]])]


def _false_pairs(standing, pairs, size, bits):
    """The list of those of the pairs of which the first copy seems to have heard all that the other one has."""
    words = {mark: _word_mask(standing.heard_by[mark], size, bits) for mark in standing.heard_by}
    return [(mark, other_mark) for mark, other_mark in pairs if is_part(words[other_mark], words[mark])]


def false_pairs(history, size, bits):
    """The ascending list of the pairs of marks of which the first copy seems to have heard what it has not."""
    standing = standing_behind(history)
    _check_size(size)
    _check_bits(bits)
    return _false_pairs(standing, _unheard_pairs(standing), size, bits)


def least_size(history, bits):
    """The least size from 1 to 64 without false pairs; None if there is none."""
    standing = standing_behind(history)
    _check_bits(bits)
    pairs = _unheard_pairs(standing)
    for size in range(1, GREATEST_SIZE + 1):
        if not _false_pairs(standing, pairs, size, bits):
            return size
    return None
