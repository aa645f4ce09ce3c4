"""Lost shares: what no member of a crew has, and who may take it over."""

from heirstamps.counts import is_stamp
from heirstamps.errors import InvalidCrew, InvalidMember, NotHeard, NotLost
from heirstamps.lots import all_lots, mask_of
from heirstamps.shares import check_share, first_common_path, less_tree, share_halves, share_whole, united, united_tree
from heirstamps.standing import standing_behind
from heirstamps.trees import bounded
from heirstamps.unions import overlap_path
from heirstamps.worths import halves, nowhere_greater

MOST_MEMBERS = 8


def is_crew(value):
    """Whether a value is a crew."""
    if type(value) is not tuple or len(value) == 0 or len(value) > MOST_MEMBERS:
        return False
    if not all([is_stamp(stamp) for stamp in value]):
        return False
    return overlap_path([stamp[0] for stamp in value]) is None


def _check_crew(value):
    """Raise InvalidCrew unless the value is a crew."""
    if not is_crew(value):
        raise InvalidCrew("not a crew")


def _check_member(crew, value):
    """Raise InvalidMember unless the value is the index of a member of the crew."""
    if type(value) is not int or value < 0 or value >= len(crew):
        raise InvalidMember("not a member of the crew")


def crew_of(history):
    """The tuple of the stamps of the copies that are there, by their marks ascending."""
    return tuple(standing_behind(history).stamps())


def _lost_tree(crew):
    """The share of all that no member has, whatever its size."""
    together = 0
    for share, _ in crew:
        together = united_tree(together, share)
    return less_tree(1, together)


def lost_share(crew):
    """The share of all that is lost."""
    _check_crew(crew)
    return bounded(_lost_tree(crew))


def _kept_path(crew, share):
    """The first of the shortest paths that the share and some member's share both have; None if all of it is lost."""
    paths = [first_common_path(share, stamp[0]) for stamp in crew]
    return min([path for path in paths if path is not None], default=None)


def _check_lost(crew, share):
    """Raise NotLost(path) unless all of the share is lost."""
    path = _kept_path(crew, share)
    if path is not None:
        raise NotLost(path)


def _is_beneath(counts, other_counts, share):
    """Whether the first counts have a lesser worth than the other ones at some part of the share."""
    if share == 0:
        return False
    if share == 1:
        return not nowhere_greater(other_counts, counts)
    parts = halves(counts)
    other_parts = halves(other_counts)
    return any([_is_beneath(parts[half], other_parts[half], share[half]) for half in range(2)])


def _barring(crew, member, share):
    """The lot of the members whose counts have a greater worth than the member's at some part of the share."""
    own = crew[member][1]
    return tuple([other for other, stamp in enumerate(crew) if _is_beneath(own, stamp[1], share)])


def _may_take(crew, member, share):
    """Whether the member may take the share."""
    return _kept_path(crew, share) is None and _barring(crew, member, share) == ()


def may_take(crew, member, share):
    """Whether the member may take the share."""
    _check_crew(crew)
    _check_member(crew, member)
    check_share(share)
    return _may_take(crew, member, share)


def barring(crew, member, share):
    """The lot of the members whose counts have a greater worth than the member's at some part of the share."""
    _check_crew(crew)
    _check_member(crew, member)
    check_share(share)
    return _barring(crew, member, share)


def takeable(crew, member):
    """The share of all that the member may take."""
    _check_crew(crew)
    _check_member(crew, member)
    return bounded(_leading_tree([stamp[1] for stamp in crew], member, _lost_tree(crew)))


def _leading_tree(several, member, share):
    """The share of all parts of a share at which no counts have a greater worth than the member's."""
    if share == 0:
        return 0
    if share == 1 and all([type(counts) is int for counts in several]):
        return 1 if several[member] == max(several) else 0
    parts = [halves(counts) for counts in several]
    sides = share_halves(share)
    trees = [_leading_tree([part[half] for part in parts], member, sides[half]) for half in range(2)]
    return share_whole(trees[0], trees[1])


def takers(crew, share):
    """The lot of the members that may take the share."""
    _check_crew(crew)
    check_share(share)
    _check_lost(crew, share)
    return tuple([member for member in range(len(crew)) if _may_take(crew, member, share)])


def _gather_leaders(several, share, found):
    """Make a key of the mask of those of the several that have the greatest worth, of each part of a share."""
    if share == 0:
        return
    if all([type(counts) is int for counts in several]):
        found[mask_of([index for index, counts in enumerate(several) if counts == max(several)])] = True
        return
    parts = [halves(counts) for counts in several]
    sides = share_halves(share)
    for half in range(2):
        _gather_leaders([part[half] for part in parts], sides[half], found)


def hear_first(crew, member, share):
    """The first lot, in lot order, of other members behind whose hearing the member may take the share."""
    _check_crew(crew)
    _check_member(crew, member)
    check_share(share)
    _check_lost(crew, share)
    leaders = {}
    _gather_leaders([stamp[1] for stamp in crew], share, leaders)
    lots = all_lots([other for other in range(len(crew)) if other != member])
    # At each part the member needs the greatest worth of all, its own or one that it has heard.
    return [lot for lot in lots if all([mask & mask_of(lot + (member,)) != 0 for mask in leaders])][0]


def taken(crew, member, share):
    """The crew in which the member has taken over the share."""
    _check_crew(crew)
    _check_member(crew, member)
    check_share(share)
    _check_lost(crew, share)
    bars = _barring(crew, member, share)
    if bars != ():
        raise NotHeard(bars[0])
    own, counts = crew[member]
    return crew[:member] + ((united(own, share), counts),) + crew[member + 1:]
