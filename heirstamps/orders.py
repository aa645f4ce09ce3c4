"""Rows of deeds each of which knows those ahead of it, and lots of deeds that stand apart.

Which deed knows which is handed in as the list below, which has for each deed the mask of the deeds that it
knows: just such as stand ahead of it, and with each one all that this one knows.
"""

from heirstamps.lots import lot_of


def row_lengths(below):
    """The list that has for each deed how many deeds the longest row has that ends with it."""
    lengths = []
    for known in below:
        lengths.append(1 + max([lengths[deed] for deed in lot_of(known)], default=0))
    return lengths


def longest_row_of(below):
    """A row with the most deeds; () if there are no deeds."""
    lengths = row_lengths(below)
    if not lengths:
        return ()
    row = (lengths.index(max(lengths)),)
    while lengths[row[0]] > 1:
        row = ([deed for deed in lot_of(below[row[0]]) if lengths[deed] == lengths[row[0]] - 1][0],) + row
    return row


class RowSharing:
    """As few rows as can be, in which each deed is once.

    For a deed before has the one that comes just ahead of it in its row, and behind the one that comes next.
    """

    def __init__(self, below):
        self.below = below
        self.before = {}
        self.behind = {}
        for deed in range(len(below)):
            self.link(deed, {})

    def link(self, deed, tried):
        """Put one of the deeds that it knows just ahead of this one, and tell whether this could be done.

        A deed that came just behind that one before must then get another one; tried has those that were looked at.
        """
        for known in lot_of(self.below[deed]):
            if known in tried:
                continue
            tried[known] = True
            if known not in self.behind or self.link(self.behind[known], tried):
                self.before[deed] = known
                self.behind[known] = deed
                return True
        return False

    def rows(self):
        """The tuple of the rows, by their first deeds."""
        return tuple([self.row_from(deed) for deed in range(len(self.below)) if deed not in self.before])

    def row_from(self, deed):
        """The row that begins with this deed."""
        row = (deed,)
        while row[-1] in self.behind:
            row += (self.behind[row[-1]],)
        return row

    def apart(self):
        """A lot of deeds, one of each row, each two of which are apart."""
        # Go from the first deeds of all rows to each deed that they know, on to the one just behind this in its row,
        # to each deed that this knows, and so on. In each row there is then one deed from which one went, but to
        # which one never came; none of these knows another one, since one came to all that it knows (Koenig).
        came = {}
        waiting = [deed for deed in range(len(self.below)) if deed not in self.before]
        went = {deed: True for deed in waiting}
        while waiting:
            deed = waiting.pop()
            for known in lot_of(self.below[deed]):
                if known not in came:
                    came[known] = True
                    went[self.behind[known]] = True
                    waiting.append(self.behind[known])
        return tuple([deed for deed in range(len(self.below)) if deed in went and deed not in came])
