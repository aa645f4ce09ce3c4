"""Meetings: who must be heard or joined, until all that is known is known."""

from itertools import combinations

from heirstamps.errors import InvalidPlan, TooMany
from heirstamps.futures import covers_copy, heard_masks
from heirstamps.hearing import hearing_behind
from heirstamps.histories import check_mark
from heirstamps.lots import all_lots, is_part, lot_of
from heirstamps.shares import united_tree
from heirstamps.standing import standing_behind
from heirstamps.trees import tuple_count
from heirstamps.unions import merge_peaks, union_sizes

MOST_PLANNED = 4


def _cover_all(masks, lot):
    """Whether the lot covers each copy that is there."""
    return all([covers_copy(masks, lot, mark) for mark in masks])


def gathering(history, mark):
    """The first lot, in lot order, of other copies that cover each copy together with this one."""
    standing = standing_behind(history)
    check_mark(standing, mark)
    masks = heard_masks(standing)
    lots = all_lots([other for other in masks if other != mark])
    return [lot for lot in lots if _cover_all(masks, lot + (mark,))][0]


def knows_all(history):
    """The lot of the copies each of which alone covers each copy that is there."""
    masks = heard_masks(standing_behind(history))
    return tuple([mark for mark in masks if _cover_all(masks, (mark,))])


def is_hear_plan(history, value):
    """Whether a value is a hear plan of at most 60 steps behind which all have heard what any has."""
    later = hearing_behind(standing_behind(history), value)
    if later is None or not all([step[0] == "hear" for step in value]):
        return False
    lots = list(later.heard_by.values())
    return all([lot == lots[0] for lot in lots])


def shortest_plan(history):
    """A hear plan with the fewest steps behind which all have heard what any has."""
    masks = heard_masks(standing_behind(history))
    if len(masks) > MOST_PLANNED:
        raise TooMany(MOST_PLANNED)
    return _shortest_plan(masks)


def fewest_steps(history):
    """The number of the steps of a shortest plan."""
    return len(shortest_plan(history))


def _shortest_plan(masks):
    """A shortest plan of copies with these masks, found by going through all that can be heard, step by step."""
    marks = list(masks)
    start = tuple([masks[mark] for mark in marks])
    plans = {start: ()}
    waiting = [start]
    at = 0
    while not all([mask == waiting[at][0] for mask in waiting[at]]):
        ahead = waiting[at]
        for step, behind in _hear_steps(marks, ahead):
            if behind not in plans:
                plans[behind] = plans[ahead] + (step,)
                waiting.append(behind)
        at += 1
    return plans[waiting[at]]


def _hear_steps(marks, heard):
    """The list of the tuples of a hear step and of the masks behind it, where these are the masks ahead of it."""
    found = []
    for at, mask in enumerate(heard):
        for other_at, other_mask in enumerate(heard):
            if not is_part(other_mask, mask):
                behind = heard[:at] + (mask | other_mask,) + heard[at + 1:]
                found.append((("hear", marks[at], marks[other_at]), behind))
    return found


def _is_join_plan(standing, value):
    """Whether a value is a join plan of the copies that are there."""
    later = hearing_behind(standing, value)
    if later is None or not all([step[0] == "join" for step in value]):
        return False
    return len(later.heard_by) == 1


def is_join_plan(history, value):
    """Whether a value is a join plan."""
    return _is_join_plan(standing_behind(history), value)


def plan_peak(history, plan):
    """The peak of a join plan."""
    standing = standing_behind(history)
    if not _is_join_plan(standing, plan):
        raise InvalidPlan("not a join plan of the history")
    shares = {mark: standing.shares[mark] for mark in standing.shares}
    peak = max([tuple_count(share) for share in shares.values()])
    for _, mark, other_mark in plan:
        shares[mark] = united_tree(shares[mark], shares[other_mark])
        peak = max(peak, tuple_count(shares[mark]))
    return peak


def _sizes_there(standing):
    """The list of the numbers of tuples of the united shares of all lots of the copies, by marks ascending."""
    return union_sizes([standing.shares[mark] for mark in sorted(standing.shares)])


def flattest_peak(history):
    """The least peak of a join plan."""
    peaks, _ = merge_peaks(_sizes_there(standing_behind(history)))
    return peaks[-1]


def flattest_plan(history):
    """A join plan with the least peak."""
    standing = standing_behind(history)
    _, splits = merge_peaks(_sizes_there(standing))
    return _plan_of(splits, sorted(standing.shares), len(splits) - 1)


def _plan_of(splits, marks, mask):
    """The join steps that leave of the copies of this mask the first one alone."""
    side = splits[mask]
    if side == 0:
        return ()
    other_side = mask - side
    step = ("join", marks[lot_of(side)[0]], marks[lot_of(other_side)[0]])
    return _plan_of(splits, marks, side) + _plan_of(splits, marks, other_side) + (step,)


def first_meeting(history):
    """The first two copies by whose join the sizes of all shares become the least in sum; None if one is alone."""
    shares = standing_behind(history).shares
    marks = sorted(shares)
    found = []
    for mark, other_mark in combinations(marks, 2):
        # The other copies keep their sizes, so it is enough to look at how much these two lose.
        apart = tuple_count(shares[mark]) + tuple_count(shares[other_mark])
        found.append((tuple_count(united_tree(shares[mark], shares[other_mark])) - apart, mark, other_mark))
    if not found:
        return None
    _, mark, other_mark = min(found)
    return (mark, other_mark)
