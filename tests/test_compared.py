"""[13], [14]: stamps compared part by part, and several counts that cover others."""

import unittest
from itertools import product

from heirstamps.compared import above, bare_path, covers, least_cover, met, needed
from heirstamps.errors import InvalidCounts, TooMany
from heirstamps.shares import is_share
from tests.plain import all_lots
from tests.support import (
    Chance, all_counts, chain_counts, chain_share, counts_of, deep, full_counts, full_share, part_of, share_of,
    tuples_in, worths,
)

# With 63 and 64 tuples.
MOST = full_counts(6)
BEYOND = full_counts(6, (0, (0, 1, 0), 0))
PATHS = [path for k in range(4) for path in product((0, 1), repeat=k)]


def refuse(case, call, *parts):
    """See that a call raises TooMany(63)."""
    with case.assertRaises(TooMany) as caught:
        call(*parts)
    case.assertEqual(caught.exception.count, 63)


class Above(unittest.TestCase):

    def test_counts(self):
        for one, other, share in ((0, 0, 0), (1, 0, 1), (0, 1, 0), (5, 5, 0), ((0, 1, 0), 0, (1, 0)),
                                  ((0, 1, 0), 1, 0), (1, (0, 1, 0), (0, 1)), ((0, 0, 3), (0, 2, 0), (0, 1)),
                                  ((1, 0, (0, 2, 0)), 2, (0, (1, 0))), ((1, 0, (0, 2, 0)), (1, 0, 1), (0, (1, 0))),
                                  ((0, (0, 1, 0), (0, 1, 0)), 0, ((1, 0), (1, 0))), (3, (2, 0, (0, 1, 0)), (1, (0, 1)))):
            with self.subTest(one=one, other=other):
                self.assertEqual(above(one, other), share)
                self.assertIs(type(above(one, other)), type(share))

    def test_all_pairs_against_cells(self):
        rows = all_counts(2, 2)
        for one in rows:
            for other in rows:
                greater = [int(a > b) for a, b in zip(worths(one, 2), worths(other, 2))]
                self.assertEqual(above(one, other), share_of(greater))

    def test_63_and_64_tuples(self):
        self.assertEqual(above(MOST, 0), full_share(6))
        # Of the one the left half stands out in places, of the other one the right half keeps back in places.
        one = (0, full_counts(5), 1)
        self.assertEqual(tuples_in(above(one, (0, 0, full_counts(5)))), 63)
        other = (0, 0, full_counts(5, (0, (0, 1, 0), 0)))
        greater = [int(a > b) for a, b in zip(worths(one, 7), worths(other, 7))]
        self.assertEqual(tuples_in(share_of(greater)), 64)
        refuse(self, above, one, other)
        self.assertTrue(is_share(above(other, one)))

    def test_great_ones_that_tell_little(self):
        self.assertEqual(above(MOST, MOST), 0)
        self.assertEqual(above(MOST, 1), 0)
        self.assertEqual(above((0, full_counts(5), 0), (0, 1, full_counts(5))), 0)

    def test_twelve_deep(self):
        self.assertEqual(above(chain_counts(12), 0), chain_share(12, (1,)))
        self.assertEqual(above(1, chain_counts(12)), above(2, chain_counts(12, 2)))


class Met(unittest.TestCase):

    def test_counts(self):
        for one, other, told in ((0, 0, 0), (3, 5, 3), (5, 3, 3), ((0, 1, 0), 0, 0), ((0, 1, 0), 1, (0, 1, 0)),
                                 ((0, 1, 0), (0, 0, 1), 0), ((2, 1, 0), (0, 0, 9), (0, 0, 2)),
                                 ((2, 1, 0), 2, 2), ((1, (0, 2, 0), 4), (2, 0, 1), (1, (0, 1, 0), 2)),
                                 ((0, (0, 4, 0), 7), (1, 0, 2), (0, (0, 1, 0), 3))):
            with self.subTest(one=one, other=other):
                self.assertEqual(met(one, other), told)

    def test_all_pairs_against_cells(self):
        rows = all_counts(2, 2)
        for one in rows:
            for other in rows:
                lesser = [min(pair) for pair in zip(worths(one, 2), worths(other, 2))]
                self.assertEqual(met(one, other), counts_of(lesser))

    def test_63_and_64_tuples(self):
        self.assertEqual(met(MOST, 1), MOST)
        one = (0, full_counts(5), 1)
        self.assertEqual(met(one, (0, 1, full_counts(5))), MOST)
        refuse(self, met, one, (0, 1, full_counts(5, (0, (0, 1, 0), 0))))
        refuse(self, met, (0, 1, full_counts(5, (0, (0, 1, 0), 0))), one)

    def test_great_ones_that_tell_little(self):
        self.assertEqual(met(MOST, 0), 0)
        self.assertEqual(met((0, full_counts(5), 0), (0, 0, full_counts(5, (0, (0, 1, 0), 0)))), 0)

    def test_twelve_deep(self):
        self.assertEqual(met(chain_counts(12, 9), 4), chain_counts(12, 4))


def best_of(several, k):
    """The greatest worth at each path of k halves, 0 without any."""
    return [max(row) for row in zip([0] * 2 ** k, *[worths(one, k) for one in several])]


def bare_cells(several, counts, k):
    """Of each path of k halves whether the counts are bare there."""
    return [worth > 0 and worth > best for worth, best in zip(worths(counts, k), best_of(several, k))]


def some_several(seed, many, k=3, top=3):
    """A tuple of counts, and counts."""
    chance = Chance(seed)
    rows = [counts_of([chance.below(top) for _ in range(2 ** k)]) for _ in range(many + 1)]
    return tuple(rows[:-1]), rows[-1]


class Cover(unittest.TestCase):

    def look(self, several, counts, k):
        """Hold all four functions against the words of the document."""
        bare = bare_cells(several, counts, k)
        self.assertIs(covers(several, counts), not any(bare))
        paths = [path for length in range(k + 1) for path in product((0, 1), repeat=length)
                 if all(part_of(bare, path))]
        self.assertEqual(bare_path(several, counts), paths[0] if any(bare) else None)
        lots = [lot for lot in all_lots(range(len(several)))
                if not any(bare_cells([several[index] for index in lot], counts, k))]
        self.assertEqual(least_cover(several, counts), lots[0] if lots else None)
        common = tuple(index for index in range(len(several)) if all(index in lot for lot in lots))
        self.assertEqual(needed(several, counts), common if lots else None)

    def test_all_of_one_half(self):
        rows = all_counts(1, 2)
        for counts in rows:
            self.look((), counts, 1)
            for one in rows:
                self.look((one,), counts, 1)
                for other in rows:
                    self.look((one, other), counts, 1)

    def test_three_halves(self):
        for seed in range(300):
            several, counts = some_several(seed, seed % 6)
            self.look(several, counts, 3)

    def test_several_with_great_worths_here_and_there(self):
        chance = Chance(14)
        sizes = set()
        for _ in range(300):
            several = tuple(counts_of([2 * (chance.below(5) < 2) for _ in range(8)]) for _ in range(6))
            counts = counts_of([chance.below(3) for _ in range(8)])
            self.look(several, counts, 3)
            lot = least_cover(several, counts)
            sizes.add(None if lot is None else len(lot))
        self.assertTrue({None, 2, 3, 4} <= sizes, sizes)

    def test_nothing_to_cover(self):
        for several in ((), (0,), ((0, 1, 0), 7)):
            self.assertIs(covers(several, 0), True)
            self.assertIsNone(bare_path(several, 0))
            self.assertEqual(least_cover(several, 0), ())
            self.assertEqual(needed(several, 0), ())

    def test_none_that_cover(self):
        self.assertIs(covers((), 1), False)
        self.assertEqual(bare_path((), (0, 0, 3)), (1,))
        self.assertIsNone(least_cover((), 1))
        self.assertIsNone(needed((), 1))
        self.assertIsNone(least_cover((1, 1, (0, 0, 9)), 2))
        self.assertIsNone(needed((1, 1, (0, 0, 9)), 2))

    def test_the_shortest_path_ahead_of_the_first_one(self):
        self.assertEqual(bare_path((), (0, (0, 0, 1), 1)), (1,))
        self.assertEqual(bare_path((), (0, (0, 1, 0), (0, (0, 1, 0), 0))), (0, 0))
        self.assertEqual(bare_path(((0, 0, (0, 1, 0)),), 1), (0,))
        self.assertEqual(bare_path(((0, 0, (0, 1, 0)), (0, (0, 1, 0), 0)), 1), (0, 1))

    def test_parts_that_are_bare_together(self):
        # Both halves of a half are bare, though their worths are unlike.
        self.assertEqual(bare_path(((0, (0, 0, 1), 3),), (1, (0, 0, 1), 2)), (0,))
        self.assertEqual(bare_path((1,), (2, 0, (0, 1, 0))), ())

    def test_the_first_lot_in_lot_order(self):
        left, right = (0, 1, 0), (0, 0, 1)
        self.assertEqual(least_cover((left, right, 1), 1), (2,))
        self.assertEqual(least_cover((left, left, right, right), 1), (0, 2))
        self.assertEqual(needed((left, left, right, right), 1), ())
        self.assertEqual(needed((left, left, right), 1), (2,))
        self.assertEqual(least_cover((right, 0, left), 1), (0, 2))
        self.assertEqual(needed((right, 0, left), 1), (0, 2))

    def test_needed_of_any_size(self):
        # The least lot is (0,), but (1, 2) covers, too; so none is needed.
        self.assertEqual(least_cover((1, (0, 1, 0), (0, 0, 1)), 1), (0,))
        self.assertEqual(needed((1, (0, 1, 0), (0, 0, 1)), 1), ())

    def test_eight_and_nine(self):
        eight = tuple(counts_of([int(at == index) for at in range(8)]) for index in range(8))
        self.assertIs(covers(eight, 1), True)
        self.assertEqual(least_cover(eight, 1), tuple(range(8)))
        self.assertEqual(needed(eight, 1), tuple(range(8)))
        self.assertEqual(bare_path(eight, 2), ())
        self.assertEqual(needed(eight[:7] + (0,), (0, 1, (0, 1, 0))), tuple(range(6)))
        for call in (covers, bare_path, least_cover, needed):
            for several in (eight + (0,), (0,) * 9, (1,) * 3000):
                self.assertRaises(InvalidCounts, call, several, 1)

    def test_no_bound_on_the_way(self):
        # All joined, and the share at which the counts are bare, would have more than 63 tuples.
        left, right = (0, full_counts(5), 0), (0, 0, full_counts(5, (0, (0, 1, 0), 0)))
        self.assertIs(covers((left, right), 1), False)
        self.assertEqual(bare_path((left, right), 1), (0, 0, 0, 0, 0, 1))
        self.assertEqual(bare_path((left,), right), (1, 0, 0, 0, 0, 0))
        self.assertEqual(least_cover((left, right), left), (0,))
        self.assertEqual(needed((left, right), right), (1,))
        self.assertEqual(least_cover((left, right, 1), 1), (2,))

    def test_twelve_deep(self):
        counts = chain_counts(12)
        self.assertEqual(bare_path((), counts), (1,) * 12)
        self.assertEqual(bare_path((chain_counts(11, (0, 1, 0)),), counts), (1,) * 12)
        self.assertEqual(needed((chain_counts(11),), counts), (0,))

    def test_several_that_are_none(self):
        wrong = (None, True, 0, 7, "", "0", [], [0], (None,), (True,), (0, False), ("0",), ([],), (0, -1), ((),),
                 (0, (0, 0, 0)), ((0, 1, 2),), (chain_counts(13),), (0, BEYOND), deep(40), {}, (0, 0, [0, 1, 0]))
        for value in wrong:
            with self.subTest(value):
                for call in (covers, bare_path, least_cover, needed):
                    self.assertRaises(InvalidCounts, call, value, 0)
                    self.assertRaises(InvalidCounts, call, value, None)
        for call in (covers, bare_path, least_cover, needed):
            self.assertRaises(InvalidCounts, call, (), None)
            self.assertRaises(InvalidCounts, call, (), (0, 1, 1))
            self.assertRaises(InvalidCounts, call, (0,), BEYOND)


if __name__ == "__main__":
    unittest.main()
