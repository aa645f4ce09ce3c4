"""Which copies cover which, and whether two histories can ever be told apart by what comes behind them."""

from heirstamps.errors import Refused
from heirstamps.hearing import hearing_behind
from heirstamps.histories import check_mark
from heirstamps.lots import all_lots, is_part, mask_of
from heirstamps.standing import standing_behind


def heard_masks(hearing):
    """The dict that has for each copy that is there, marks ascending, the mask of the deeds that it has heard."""
    return {mark: mask_of(hearing.heard_by[mark]) for mark in sorted(hearing.heard_by)}


def covers_copy(masks, lot, mark):
    """Whether each deed that the copy has heard has been heard by a copy of the lot."""
    together = 0
    for member in lot:
        together |= masks[member]
    return is_part(masks[mark], together)


def _is_least(masks, lot, mark):
    """Whether the lot covers the copy, and no lot of some of its copies does."""
    if not covers_copy(masks, lot, mark):
        return False
    # What covers a copy covers it with more copies, too, so it is enough to leave out one copy.
    parts = [lot[:at] + lot[at + 1:] for at in range(len(lot))]
    return not any([part != () and covers_copy(masks, part, mark) for part in parts])


def _least_covers(masks, mark):
    """The list of least_covers, of the copies with these masks."""
    return [lot for lot in all_lots(list(masks))[1:] if _is_least(masks, lot, mark)]


def least_covers(history, mark):
    """The list, in lot order, of the lots that cover the copy and have no lesser one in them that does."""
    standing = standing_behind(history)
    check_mark(standing, mark)
    return _least_covers(heard_masks(standing), mark)


def cover_table(history):
    """The list of the tuples (mark, least_covers) of all copies."""
    masks = heard_masks(standing_behind(history))
    return [(mark, _least_covers(masks, mark)) for mark in masks]


def are_even(hearing, other_hearing):
    """Whether the same marks are there, and the next mark is the same."""
    if hearing.next_mark != other_hearing.next_mark:
        return False
    return sorted(hearing.heard_by) == sorted(other_hearing.heard_by)


def cover_sign(hearing):
    """A tuple that two hearings have in common exactly if they are alike for every future."""
    masks = list(heard_masks(hearing).values())
    unions = [0]
    for lot_mask in range(1, 1 << len(masks)):
        last = lot_mask.bit_length() - 1
        unions.append(unions[lot_mask - (1 << last)] | masks[last])
    # The lot of no copies covers none, also of such as have heard nothing.
    covered = [mask | union == union for union in unions[1:] for mask in masks]
    return (hearing.next_mark, tuple(sorted(hearing.heard_by)), tuple(covered))


def _first_unlike(hearing, other_hearing):
    """The tuple (lot, mark) of a lot that covers the copy behind just one of two even histories; None for none."""
    masks = heard_masks(hearing)
    other_masks = heard_masks(other_hearing)
    for lot in all_lots(list(masks))[1:]:
        for mark in masks:
            if covers_copy(masks, lot, mark) != covers_copy(other_masks, lot, mark):
                return (lot, mark)
    return None


def are_alike(history, other_history):
    """Whether the two histories are alike for every future."""
    standing = standing_behind(history)
    other_standing = standing_behind(other_history)
    return are_even(standing, other_standing) and _first_unlike(standing, other_standing) is None


def _even_standings(history, other_history):
    """The standings behind two histories; Refused unless they are even."""
    standing = standing_behind(history)
    other_standing = standing_behind(other_history)
    if not are_even(standing, other_standing):
        raise Refused("the histories are not even")
    return (standing, other_standing)


def parting(history, other_history):
    """Hear steps and two marks, behind which a look parts the two histories; None if they are alike."""
    standing, other_standing = _even_standings(history, other_history)
    unlike = _first_unlike(standing, other_standing)
    if unlike is None:
        return None
    # Each copy of the lot that another one hears adds to this what it has heard, so this comes to cover the mark.
    lot, mark = unlike
    return (tuple([("hear", lot[0], member) for member in lot[1:]]), lot[0], mark)


def is_parting(history, other_history, value):
    """Whether a value is steps and two marks, behind which a look parts the two histories."""
    standing, other_standing = _even_standings(history, other_history)
    if type(value) is not tuple or len(value) != 3:
        return False
    steps, mark, other_mark = value
    later = hearing_behind(standing, steps)
    other_later = hearing_behind(other_standing, steps)
    # The same marks are there behind both, so steps that can be done behind one can be done behind the other.
    if later is None:
        return False
    if not later.has(mark) or not later.has(other_mark) or mark == other_mark:
        return False
    return _has_heard_all(later, mark, other_mark) != _has_heard_all(other_later, mark, other_mark)


def _has_heard_all(hearing, mark, other_mark):
    """Whether the first copy has heard all that the other one has."""
    return covers_copy(heard_masks(hearing), (mark,), other_mark)
