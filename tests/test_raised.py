"""[9]: the counts behind a deed: fill, and else grow."""

import unittest

from heirstamps.counts import raised
from heirstamps.errors import InvalidCounts, InvalidShare, Refused, TooMany
from tests.support import (
    Chance, all_counts, all_shares, cells, chain_counts, chain_share, counts_of, full_counts, full_share, raised_row,
    share_of, tuples_in, worths,
)


class Fill(unittest.TestCase):

    def test_all_of_the_whole(self):
        self.assertEqual(raised(1, (1, 0, 1)), 2)
        self.assertEqual(raised(1, (2, (0, 0, 5), 1)), 7)
        self.assertEqual(raised(1, MOST), 1)

    def test_a_half_up_to_the_least_of_the_other(self):
        self.assertEqual(raised((1, 0), (0, 0, 3)), 3)
        self.assertEqual(raised((0, 1), (0, 3, 0)), 3)
        self.assertEqual(raised((1, 0), (0, 0, (2, 0, 1))), (2, 0, (0, 0, 1)))
        self.assertEqual(raised((0, 1), (0, (2, 1, 0), 0)), (2, (0, 1, 0), 0))

    def test_a_half_up_to_its_own_greatest(self):
        self.assertEqual(raised((1, 0), (0, (0, 0, 2), 0)), (0, 2, 0))
        self.assertEqual(raised((0, 1), (0, 0, (0, 2, 0))), (0, 0, 2))
        self.assertEqual(raised((1, 0), (4, (0, 0, 2), 1)), (5, 1, 0))
        self.assertEqual(raised((1, 0), (0, (0, 0, 2), (1, 0, 1))), (1, 1, (0, 0, 1)))

    def test_the_other_half_is_filled_first(self):
        # Filling the right half raises its least worth, and the left one goes up to this.
        self.assertEqual(raised((1, (1, 0)), (0, 0, (0, 0, 2))), 2)
        self.assertEqual(raised((1, (0, 1)), (0, 0, (0, 2, 0))), 2)
        self.assertEqual(raised(((1, 0), 1), (0, (0, 0, 2), 0)), 2)
        self.assertEqual(raised(((0, 1), 1), (0, (0, 2, 0), 0)), 2)
        self.assertEqual(raised((1, (1, 0)), (0, 1, (0, 0, 2))), 2)

    def test_below_both_halves(self):
        self.assertEqual(raised(((1, 0), 0), (0, (0, 0, 1), 0)), (0, 1, 0))
        self.assertEqual(raised(((1, 0), (0, 1)), (0, (0, 0, 1), (1, 2, 0))), (1, 0, 2))
        self.assertEqual(raised(((0, (0, 1)), 0), (0, (0, 0, (0, 3, 0)), 0)), (0, (0, 0, 3), 0))

    def test_what_it_does_not_have_stays(self):
        self.assertEqual(raised((0, (1, 0)), (0, (0, 0, 9), (0, 0, 2))), (0, (0, 0, 9), 2))

    def test_fill_goes_ahead_of_grow(self):
        # One part can be filled and another one only grown: nothing grows.
        self.assertEqual(raised(((1, 0), (1, 0)), (0, (0, 0, 1), 0)), (0, 1, 0))
        self.assertEqual(raised(((1, 0), (1, 0)), (0, 0, (0, 0, 1))), (0, 0, 1))


class Grow(unittest.TestCase):

    def test_integers(self):
        self.assertEqual(raised(1, 0), 1)
        self.assertEqual(raised(1, 10 ** 90 - 1), 10 ** 90)
        self.assertEqual(raised((1, 0), 2), (2, 1, 0))
        self.assertEqual(raised((0, 1), 2), (2, 0, 1))
        self.assertEqual(raised((0, (1, 0)), 0), (0, 0, (0, 1, 0)))

    def test_without_new_tuples(self):
        self.assertEqual(raised((1, 0), (0, 3, 0)), (0, 4, 0))
        self.assertEqual(raised((0, (1, 0)), (1, 2, (0, 3, 0))), (1, 2, (0, 4, 0)))

    def test_the_fewest_new_tuples(self):
        # (0, 0, 0) takes three halves and no new tuple, (1, 0) only two halves, but one new tuple.
        share = (((1, 0), 0), (1, 0))
        counts = (0, (0, (0, 0, (0, 0, 1)), 0), 0)
        self.assertEqual(raised(share, counts), (0, (0, (0, 1, (0, 0, 1)), 0), 0))
        # Behind a further half the first path is the dearer one.
        self.assertEqual(raised(((1, 0), (1, 0)), (0, 0, (0, 1, 0))), (0, 0, (0, 2, 0)))
        self.assertEqual(raised(((1, 0), (0, (1, 0))), (0, 0, (0, 0, (0, 1, 0)))), (0, 0, (0, 0, (0, 2, 0))))

    def test_then_the_fewest_halves(self):
        # Each of both takes one new tuple; the first path is the longer one.
        self.assertEqual(raised(((0, (1, 0)), (1, 0)), (0, (0, 1, 0), 0)), (0, (0, 1, 0), (0, 1, 0)))
        self.assertEqual(raised((((1, 0), 0), (1, 0)), 0), (0, 0, (0, 1, 0)))
        self.assertEqual(raised((((0, 1), 0), (0, 1)), 4), (4, 0, (0, 0, 1)))

    def test_then_the_first_path(self):
        self.assertEqual(raised(((1, 0), (0, 1)), 5), (5, (0, 1, 0), 0))
        self.assertEqual(raised(((0, 1), (1, 0)), 5), (5, (0, 0, 1), 0))
        self.assertEqual(raised((((1, 0), (0, 1)), 0), (0, (0, 1, 0), 0)), (0, (0, (1, 1, 0), 0), 0))
        self.assertEqual(raised((((0, 1), (0, 1)), 0), 0), (0, (0, (0, 0, 1), 0), 0))

    def test_the_first_path_behind_equal_prices(self):
        share = (((1, 0), (1, 0)), (0, ((1, 0), 0)))
        self.assertEqual(raised(share, (0, (0, 0, 1), 0)), (0, (0, (0, 1, 0), 1), 0))

    def test_as_deep_as_may_be(self):
        self.assertEqual(raised(chain_share(12, (1,)), 0), chain_counts(12))
        self.assertEqual(raised(chain_share(12, (1,)), chain_counts(12)), chain_counts(12, 2))


class Bounds(unittest.TestCase):

    def test_refused(self):
        for counts in (0, 5, (0, 1, 0), MOST):
            self.assertRaises(Refused, raised, 0, counts)

    def test_errors_of_the_parameters_first(self):
        self.assertRaises(InvalidCounts, raised, 0, -1)
        self.assertRaises(InvalidShare, raised, (0, 0), -1)
        self.assertRaises(InvalidShare, raised, True, 0)

    def test_63_tuples(self):
        # With 62 tuples an integer may be parted; with 63 one is raised as it stands.
        fewer = (0, full_counts(5), full_counts(5, 1))
        self.assertEqual(tuples_in(fewer), 62)
        self.assertEqual(raised(chain_share(6, (1,)), fewer), (0, full_counts(5), full_counts(5, (1, 0, 1))))
        self.assertEqual(raised(chain_share(6, (1, 1, 1, 1, 1, 0)), MOST),
                         (0, full_counts(5), full_counts(5, (0, 2, 0))))

    def test_64_tuples(self):
        for share in (chain_share(7, (1,)), chain_share(7, (0,)), chain_share(12, (1,))):
            with self.assertRaises(TooMany) as caught:
                raised(share, MOST)
            self.assertEqual(caught.exception.count, 63)

    def test_what_is_filled_is_never_too_much(self):
        self.assertEqual(raised((1, 0), MOST), (0, 1, full_counts(5)))
        self.assertEqual(raised(full_share(6), MOST), raised_of_cells(full_share(6), MOST, 6))

    def test_two_new_tuples_where_one_has_room(self):
        fewer = (0, full_counts(5), replace_first(full_counts(5)))
        self.assertEqual(tuples_in(fewer), 62)
        path = (1, 0, 0, 0, 0)
        self.assertEqual(tuples_in(raised(share_of_path(path + (0,)), fewer)), 63)
        self.assertRaises(TooMany, raised, share_of_path(path + (0, 0)), fewer)


class AgainstCells(unittest.TestCase):

    def test_all_of_two_halves(self):
        for share in all_shares(2):
            if share == 0:
                continue
            for counts in all_counts(2, 2):
                self.assertEqual(raised(share, counts), raised_of_cells(share, counts, 2))

    def test_many_of_four_halves(self):
        chance = Chance(4)
        for _ in range(6000):
            top = 1 + chance.below(3)
            share = share_of(some_row(chance, 16, 1))
            counts = counts_of(some_row(chance, 16, top))
            if share != 0:
                self.assertEqual(raised(share, counts), raised_of_cells(share, counts, 4))

    def test_deed_behind_deed(self):
        chance = Chance(9)
        for _ in range(200):
            share = share_of(some_row(chance, 16, 1))
            counts = counts_of(some_row(chance, 16, 2))
            if share == 0:
                continue
            for _ in range(8):
                told = raised(share, counts)
                self.assertEqual(told, raised_of_cells(share, counts, 4))
                counts = told


def raised_of_cells(share, counts, k):
    """What the model of the tests tells."""
    return counts_of(raised_row(cells(share, k), worths(counts, k)))


def some_row(chance, length, top):
    """A row of numbers, of which neighbours are often the same."""
    if length == 1 or chance.below(5) == 0:
        return [chance.below(top + 1)] * length
    return some_row(chance, length // 2, top) + some_row(chance, length // 2, top)


def share_of_path(path):
    """The share of this one path."""
    return chain_share(len(path), path)


def replace_first(counts):
    """The counts with 0 in the place of the first of the deepest tuples."""
    if counts == (0, 1, 0):
        return 0
    return (counts[0], replace_first(counts[1]), counts[2])


MOST = full_counts(6)


if __name__ == "__main__":
    unittest.main()
