"""What several shares make when they are put together, in this sequence or that one."""

from heirstamps.shares import first_common_path, united_tree
from heirstamps.trees import tuple_count


def overlap_path(shares):
    """The path of united for the first share that has a part in common with those ahead of it; None for none."""
    together = 0
    for share in shares:
        path = first_common_path(together, share)
        if path is not None:
            return path
        together = united_tree(together, share)
    return None


def union_sizes(shares):
    """The list of the numbers of tuples of all lots of the shares united, which overlap nowhere, by their masks."""
    trees = [0]
    for mask in range(1, 1 << len(shares)):
        last = mask.bit_length() - 1
        trees.append(united_tree(trees[mask - (1 << last)], shares[last]))
    return [tuple_count(tree) for tree in trees]


def peaks_ahead(sizes):
    """The list that tells for each mask the least peak of it, and of what it becomes share by share, up to all."""
    full = len(sizes) - 1
    peaks = list(sizes)
    for mask in reversed(range(full)):
        nexts = [mask | 1 << index for index in range(full.bit_length()) if not mask >> index & 1]
        peaks[mask] = max(sizes[mask], min([peaks[larger] for larger in nexts]))
    return peaks


def merge_peaks(sizes):
    """The least peaks of putting together, two by two, the shares of each mask, and how each mask splits for it.

    Both lists go by masks. A split is the mask of the side that has the first share; of one share it is 0.
    """
    peaks = list(sizes)
    splits = [0] * len(sizes)
    for mask in range(1, len(sizes)):
        first = mask & -mask
        sides = [side for side in range(first, mask) if side & first and side | mask == mask]
        if sides:
            peak, side = min([(max(peaks[side], peaks[mask - side]), side) for side in sides])
            peaks[mask] = max(sizes[mask], peak)
            splits[mask] = side
    return (peaks, splits)
