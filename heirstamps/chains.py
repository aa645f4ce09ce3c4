"""Which deed knows which: rows of deeds, entries that tell it, and crowns."""

from heirstamps.cliques import greatest_clique
from heirstamps.errors import InvalidCount, InvalidNumbers, InvalidRows, TooMany
from heirstamps.histories import check_deed, check_mark
from heirstamps.lots import mask_of
from heirstamps.orders import RowSharing, longest_row_of, row_lengths
from heirstamps.realizers import realizer_of
from heirstamps.standing import standing_behind

MOST_ENTERED = 12
MOST_CROWNED = 16
GREATEST_ENTRY = 999999999
MOST_CROWN_COPIES = 6


def _below_of(standing):
    """The list that has for each deed the mask of the deeds that it knows."""
    return [mask_of(known) - (1 << deed) for deed, known in enumerate(standing.known)]


def _is_deed(value, below):
    """Whether a value is the number of a deed."""
    return type(value) is int and 0 <= value < len(below)


def _two_deeds(history, deed, other_deed):
    """The list that has for each deed the mask of those it knows; InvalidDeed unless both are deeds."""
    standing = standing_behind(history)
    check_deed(standing, deed)
    check_deed(standing, other_deed)
    return _below_of(standing)


def _knows(below, deed, other_deed):
    """Whether the deed knows the other one."""
    return below[deed] >> other_deed & 1 == 1


def knows(history, deed, other_deed):
    """Whether the deed knows the other one."""
    return _knows(_two_deeds(history, deed, other_deed), deed, other_deed)


def are_apart(history, deed, other_deed):
    """Whether the deeds are two, neither of which knows the other one."""
    below = _two_deeds(history, deed, other_deed)
    return deed != other_deed and not _knows(below, deed, other_deed) and not _knows(below, other_deed, deed)


def levels(history):
    """The list of lots, the k-th one of the deeds for which the longest row that ends with them has k + 1 deeds."""
    lengths = row_lengths(_below_of(standing_behind(history)))
    found = []
    for length in range(1, max(lengths, default=0) + 1):
        found.append(tuple([deed for deed, its_length in enumerate(lengths) if its_length == length]))
    return found


def width(history):
    """The greatest number of deeds each two of which are apart."""
    return len(widest(history))


def widest(history):
    """A lot of as many deeds as can be, each two of which are apart."""
    return RowSharing(_below_of(standing_behind(history))).apart()


def longest_row(history):
    """A row with the most deeds; () if there are no deeds."""
    return longest_row_of(_below_of(standing_behind(history)))


def fewest_rows(history):
    """A row sharing with the fewest rows."""
    return RowSharing(_below_of(standing_behind(history))).rows()


def _is_row(value, below):
    """Whether a value is a row."""
    if type(value) is not tuple or len(value) == 0 or not all([_is_deed(deed, below) for deed in value]):
        return False
    # A deed knows what a deed knows that it knows, so it is enough to look at neighbours.
    return all([_knows(below, value[at], value[at - 1]) for at in range(1, len(value))])


def _is_row_sharing(value, below):
    """Whether a value is a row sharing."""
    if type(value) is not tuple or not all([_is_row(row, below) for row in value]):
        return False
    return sorted([deed for row in value for deed in row]) == list(range(len(below)))


def is_row_sharing(history, value):
    """Whether a value is a row sharing."""
    return _is_row_sharing(value, _below_of(standing_behind(history)))


def _shared_standing(history, rows):
    """The standing behind the history; InvalidRows unless the rows are a row sharing."""
    standing = standing_behind(history)
    if not _is_row_sharing(rows, _below_of(standing)):
        raise InvalidRows("not a row sharing of the history")
    return standing


def row_counts(history, rows, mark):
    """The tuple that tells how many deeds of each row the copy has heard."""
    standing = _shared_standing(history, rows)
    check_mark(standing, mark)
    heard = standing.heard_by[mark]
    return tuple([len([deed for deed in row if deed in heard]) for row in rows])


def deeds_by(history, rows, numbers):
    """The lot that has of each row as many first deeds as the numbers tell."""
    _shared_standing(history, rows)
    if type(numbers) is not tuple or len(numbers) != len(rows):
        raise InvalidNumbers("not a tuple of one number for each row")
    if not all([type(number) is int and 0 <= number <= len(row) for number, row in zip(numbers, rows)]):
        raise InvalidNumbers("not a number of the deeds of each row")
    return tuple(sorted([deed for number, row in zip(numbers, rows) for deed in row[:number]]))


def _is_entry(value, length):
    """Whether a value is a tuple of so many integers that are not too great."""
    if type(value) is not tuple or len(value) != length:
        return False
    return all([type(number) is int and -GREATEST_ENTRY <= number <= GREATEST_ENTRY for number in value])


def _is_nowhere_greater(entry, other_entry):
    """Whether each integer of the first entry is at most that at the same place of the other one."""
    return all([number <= other_number for number, other_number in zip(entry, other_entry)])


def is_entries(history, value):
    """Whether a value is entries."""
    below = _below_of(standing_behind(history))
    if type(value) is not tuple or len(value) != len(below):
        return False
    if value == ():
        return True
    if type(value[0]) is not tuple or len(value[0]) == 0:
        return False
    if not all([_is_entry(entry, len(value[0])) for entry in value]):
        return False
    for deed, entry in enumerate(value):
        under = [other for other, other_entry in enumerate(value) if _is_nowhere_greater(other_entry, entry)]
        if mask_of(under) != below[deed] | 1 << deed:
            return False
    return True


def _realizer(history):
    """As few sequences of all deeds as tell which deed knows which; TooMany(12) for more than 12 deeds."""
    below = _below_of(standing_behind(history))
    if len(below) > MOST_ENTERED:
        raise TooMany(MOST_ENTERED)
    return realizer_of(below)


def fewest_entries(history):
    """The least length of the tuples of entries."""
    return len(_realizer(history))


def some_entries(history):
    """Entries of the least length."""
    sequences = _realizer(history)
    return tuple([tuple([places[deed] for places in sequences]) for deed in range(len(sequences[0]))])


def is_crown(history, value):
    """Whether a value is a crown of the history."""
    below = _below_of(standing_behind(history))
    if type(value) is not tuple or len(value) != 2:
        return False
    if type(value[0]) is not tuple or type(value[1]) is not tuple or len(value[0]) != len(value[1]):
        return False
    members = value[0] + value[1]
    if len(value[0]) < 2 or not all([_is_deed(deed, below) for deed in members]):
        return False
    if len(set(members)) != len(members):
        return False
    for at, deed in enumerate(value[1]):
        if [_knows(below, deed, other) for other in value[0]] != [at != other_at for other_at in range(len(value[0]))]:
            return False
    return True


def greatest_crown(history):
    """A crown with the most deeds; None if there is none."""
    below = _below_of(standing_behind(history))
    if len(below) > MOST_CROWNED:
        raise TooMany(MOST_CROWNED)
    deeds = range(len(below))
    pairs = [(one, other) for one in deeds for other in deeds if one != other and not _knows(below, other, one)]
    # Any two pairs of a crown go together, and pairs that go together two by two are one.
    friends = [mask_of([at for at, pair in enumerate(pairs) if _go_together(below, pair, mine)]) for mine in pairs]
    chosen = [pairs[at] for at in greatest_clique(friends)]
    if len(chosen) < 2:
        return None
    return (tuple([pair[0] for pair in chosen]), tuple([pair[1] for pair in chosen]))


def _go_together(below, pair, other_pair):
    """Whether two pairs of deeds, the first one of each unknown to the second one, make a crown."""
    return _knows(below, pair[1], other_pair[0]) and _knows(below, other_pair[1], pair[0])


def crown_history(count):
    """The history whose deeds have a crown of so many copies."""
    if type(count) is not int or count < 2 or count > MOST_CROWN_COPIES:
        raise InvalidCount("not an integer from 2 to 6")
    steps = [("fork", 0)] * (count - 1) + [("deed", mark) for mark in range(count)]
    for left_out in range(count):
        giver = (left_out + 1) % count
        mark = count + left_out
        hears = [("hear", mark, other) for other in range(count) if other != giver and other != left_out]
        steps += [("fork", giver)] + hears + [("deed", mark), ("lose", mark)]
    return tuple(steps)
