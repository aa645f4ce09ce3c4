"""The worths of the parts that counts tell, and counts made of their halves.

The functions of this file take what is surely counts, and look at no bounds.
"""


def least(counts):
    """The least worth of a part."""
    # In one of both halves the least worth is 0, so nothing need be added to the first number.
    if type(counts) is int:
        return counts
    return counts[0]


def greatest(counts):
    """The greatest worth of a part."""
    if type(counts) is int:
        return counts
    return counts[0] + max(greatest(counts[1]), greatest(counts[2]))


def lifted(counts, number):
    """The counts with this number added to each worth."""
    if type(counts) is int:
        return counts + number
    return (counts[0] + number, counts[1], counts[2])


def halves(counts):
    """The counts of the left half, and those of the right half, with all their worth."""
    if type(counts) is int:
        return (counts, counts)
    return (lifted(counts[1], counts[0]), lifted(counts[2], counts[0]))


def whole(left, right):
    """The counts whose halves have these counts."""
    if type(left) is int and left == right:
        return left
    base = min(least(left), least(right))
    return (base, lifted(left, -base), lifted(right, -base))


def greater_of(counts, other_counts):
    """The counts whose worth is at each part the greater one."""
    if type(counts) is int and type(other_counts) is int:
        return max(counts, other_counts)
    left, right = halves(counts)
    other_left, other_right = halves(other_counts)
    return whole(greater_of(left, other_left), greater_of(right, other_right))


def lesser_of(counts, other_counts):
    """The counts whose worth is at each part the lesser one."""
    if type(counts) is int and type(other_counts) is int:
        return min(counts, other_counts)
    left, right = halves(counts)
    other_left, other_right = halves(other_counts)
    return whole(lesser_of(left, other_left), lesser_of(right, other_right))


def nowhere_greater(counts, other_counts):
    """Whether no part has a greater worth in the first counts."""
    if type(counts) is int and type(other_counts) is int:
        return counts <= other_counts
    left, right = halves(counts)
    other_left, other_right = halves(other_counts)
    return nowhere_greater(left, other_left) and nowhere_greater(right, other_right)


def filled(share, counts):
    """The counts in which what the share has is raised as far as this makes them plainer."""
    if share == 0 or type(counts) is int:
        return counts
    if share == 1:
        return greatest(counts)
    base, left, right = counts
    if share[0] == 1:
        right = filled(share[1], right)
        left = max(greatest(left), least(right))
    elif share[1] == 1:
        left = filled(share[0], left)
        right = max(greatest(right), least(left))
    else:
        left = filled(share[0], left)
        right = filled(share[1], right)
    return lifted(whole(left, right), base)


def new_tuples(counts, path):
    """How many tuples more it takes to give what the path names a worth of its own."""
    part = counts
    for gone, half in enumerate(path):
        if type(part) is int:
            return len(path) - gone
        part = part[1 + half]
    return 0


def grown(counts, path):
    """The counts in which the part that the path names, all of one worth, is raised by 1."""
    if path == ():
        return counts + 1
    left, right = halves(counts)
    if path[0] == 0:
        return whole(grown(left, path[1:]), right)
    return whole(left, grown(right, path[1:]))
