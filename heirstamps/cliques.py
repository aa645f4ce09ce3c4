"""Lots of things each two of which go together."""

from heirstamps.lots import lot_of


class CliqueSearch:
    """Looks for as many things as can be, each two of which go together.

    friends has for each thing the mask of those that go together with it.
    """

    def __init__(self, friends):
        self.friends = friends
        self.best = ()

    def grow(self, lot, mask):
        """Look at the lot with all of the things of the mask, which go together with each one of it."""
        if len(lot) > len(self.best):
            self.best = lot
        left = lot_of(mask)
        for at, thing in enumerate(left):
            if len(lot) + len(left) - at <= len(self.best):
                return
            self.grow(lot + (thing,), mask & self.friends[thing] & -(2 << thing))


def greatest_clique(friends):
    """The first lot, as Python orders tuples, of as many things as can be, each two of which go together."""
    search = CliqueSearch(friends)
    search.grow((), (1 << len(friends)) - 1)
    return search.best
