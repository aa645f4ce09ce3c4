"""Lots, and masks: integers whose bits tell which members a lot has."""

from itertools import combinations


def mask_of(lot):
    """The mask of a lot."""
    return sum([1 << member for member in lot])


def lot_of(mask):
    """The lot of a mask."""
    return tuple([member for member in range(mask.bit_length()) if mask >> member & 1])


def is_part(mask, other_mask):
    """Whether all members of the first lot are in the other one."""
    return mask | other_mask == other_mask


def is_lot_within(value, members):
    """Whether a value is a lot of some of these members."""
    if type(value) is not tuple or not all([type(member) is int and member in members for member in value]):
        return False
    return all([value[at - 1] < value[at] for at in range(1, len(value))])


def all_lots(members):
    """The list, in lot order, of all lots of ascending members, () among them."""
    return [lot for size in range(len(members) + 1) for lot in combinations(members, size)]
