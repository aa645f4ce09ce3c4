"""[16]: stamps and shares put together in any sequence."""

import unittest
from itertools import combinations, permutations

from heirstamps.compared import best_row, least_peak, peak, put_together
from heirstamps.counts import joined
from heirstamps.errors import InvalidRow, InvalidShare, InvalidStamp, Overlap, StampError
from heirstamps.shares import united
from tests.support import (
    Chance, all_shares, cells, chain_counts, chain_share, deep, full_counts, full_share, share_of, tuples_in,
)

LEFT, RIGHT = (1, 0), (0, 1)
FOUR = (((1, 0), 0), ((0, 1), 0), (0, (1, 0)), (0, (0, 1)))
# Each has 31 tuples below, and so has one more in its half.
HALF_LEFT, HALF_RIGHT = (full_share(5), 0), (0, full_share(5))


def outcome(call, *parts):
    """What a call tells, or its error with its fields."""
    try:
        return call(*parts)
    except StampError as error:
        return (type(error).__name__, vars(error))


def shares_apart(chance, many, k):
    """So many shares that overlap nowhere, some of them perhaps 0."""
    owners = [chance.below(many + 1) for _ in range(2 ** k)]
    return tuple(share_of([int(owner == index) for owner in owners]) for index in range(many))


def plain_peak(shares, row, k):
    """The peak by cells."""
    together = [0] * 2 ** k
    sizes = []
    for index in row:
        together = [a + b for a, b in zip(together, cells(shares[index], k))]
        sizes.append(tuples_in(share_of(together)))
    return max(sizes)


def one_by_one(stamps):
    """What put_together tells, by united and joined."""
    share, counts = stamps[0]
    for next_share, next_counts in stamps[1:]:
        share = united(share, next_share)
        counts = joined(counts, next_counts)
    return share, counts


class PutTogether(unittest.TestCase):

    def test_stamps(self):
        for stamps, told in ((((1, 0),), (1, 0)), (((0, (0, 1, 0)),), (0, (0, 1, 0))),
                             (((LEFT, 2), (RIGHT, 1)), (1, 2)), (((0, 5), (0, 3), (1, 4)), (1, 5)),
                             (((LEFT, (0, 1, 0)), ((0, (1, 0)), (0, 0, 2))), ((1, (1, 0)), (1, 0, 1))),
                             (((((1, 0), 0), 0), (((0, 1), 0), (0, 3, 0)), ((0, (0, 1)), 1)), ((1, (0, 1)), (1, 2, 0)))):
            with self.subTest(stamps):
                self.assertEqual(put_together(stamps), told)
                self.assertIs(type(put_together(stamps)), tuple)

    def test_against_united_and_joined(self):
        chance = Chance(5)
        shares, trees = all_shares(2), [0, 1, (0, 1, 0), (0, 0, 2), (1, 0, 1), (0, (0, 1, 0), 3)]
        overlaps = 0
        for _ in range(400):
            stamps = tuple((chance.one_of(shares[:9]), chance.one_of(trees)) for _ in range(1 + chance.below(4)))
            told = outcome(put_together, stamps)
            self.assertEqual(told, outcome(one_by_one, stamps))
            overlaps += told[0] == "Overlap"
        self.assertTrue(40 < overlaps < 360)

    def test_eight_stamps(self):
        eight = tuple((share_of([int(at == index) for at in range(8)]), index) for index in range(8))
        self.assertEqual(put_together(eight), (1, 7))
        self.assertEqual(put_together(eight[::-1]), (1, 7))

    def test_overlap(self):
        for stamps, path in ((((LEFT, 0), (LEFT, 3)), (0,)), (((1, 0), (1, 0)), ()),
                             (((LEFT, 0), (RIGHT, 0), ((0, (1, 0)), 0)), (1, 0)),
                             (((0, 0), (LEFT, 0), (0, 0), (((0, 1), 1), 0)), (0, 1))):
            with self.subTest(stamps), self.assertRaises(Overlap) as caught:
                put_together(stamps)
            self.assertEqual(caught.exception.path, path)

    def test_63_and_64_tuples_of_the_share(self):
        self.assertEqual(put_together(((HALF_LEFT, 0), (HALF_RIGHT, 0))), (full_share(6), 0))
        more = (0, full_share(5, (1, (1, 0))))
        self.assertEqual(outcome(put_together, ((HALF_LEFT, 0), (more, 0))), ("TooMany", {"count": 63}))

    def test_63_and_64_tuples_of_the_counts(self):
        left, right = (0, full_counts(5), 0), (0, 0, full_counts(5))
        more = (0, 0, full_counts(5, (0, (0, 1, 0), 0)))
        self.assertEqual(put_together(((0, left), (0, right))), (0, full_counts(6)))
        self.assertEqual(outcome(put_together, ((0, left), (0, more))), ("TooMany", {"count": 63}))

    def test_too_many_on_the_way(self):
        # All together are not too many, but the first two are.
        share = (0, full_share(5, (1, (1, 0))))
        gap = share_of([int(at >= 64) - cell for at, cell in enumerate(cells(share, 7))])
        self.assertEqual(put_together(((share, 0), (gap, 0), (HALF_LEFT, 0))), ((full_share(5), 1), 0))
        self.assertEqual(outcome(put_together, ((share, 0), (HALF_LEFT, 0), (gap, 0))), ("TooMany", {"count": 63}))
        left, right = (0, full_counts(5), 0), (0, 0, full_counts(5, (0, (0, 1, 0), 0)))
        self.assertEqual(put_together(((0, left), (0, 1), (0, right))), (0, 1))
        self.assertEqual(outcome(put_together, ((0, left), (0, right), (0, 1))), ("TooMany", {"count": 63}))

    def test_shares_ahead_of_counts_one_by_one(self):
        left, right = (0, full_counts(5), 0), (0, 0, full_counts(5, (0, (0, 1, 0), 0)))
        # The second one overlaps, and its counts are too many.
        self.assertEqual(outcome(put_together, ((LEFT, left), (1, right))), ("Overlap", {"path": (0,)}))
        # The counts of the second one are too many, the third one overlaps.
        self.assertEqual(outcome(put_together, ((LEFT, left), (0, right), (1, 0))), ("TooMany", {"count": 63}))
        # The second one overlaps, the counts of the third one are too many.
        self.assertEqual(outcome(put_together, ((LEFT, left), (LEFT, 0), (0, right))), ("Overlap", {"path": (0,)}))
        # The first overlap counts, not the first path.
        stamps = ((LEFT, 0), ((0, (0, 1)), 0), ((0, (0, 1)), 0), (1, 0))
        self.assertEqual(outcome(put_together, stamps), ("Overlap", {"path": (1, 1)}))

    def test_what_is_no_stamps(self):
        for value in (None, True, 0, "", [], (), [(1, 0)], (1, 0), ((1, 0), None), ((1,),), ((1, 0, 0),), ((2, 0),),
                      ((1, -1),), ((1, True),), ((True, 0),), ((0, 0),) * 9, ((1, 0), [0, 0]), (((0, 0), 0),),
                      ((0, (0, 1, 1)),), ((chain_share(13), 0),), ((0, chain_counts(13)),), deep(40),
                      ((0, 0),) * 1000, ((full_share(7), 0),), ((0, full_counts(7)),), ("00",)):
            with self.subTest(value):
                self.assertRaises(InvalidStamp, put_together, value)
        self.assertEqual(put_together(((0, 0),) * 8), (0, 0))


class Peaks(unittest.TestCase):

    def test_peak(self):
        for shares, row, told in (((1,), (0,), 0), ((LEFT,), (0,), 1), ((0, 0), (1, 0), 0), ((LEFT, RIGHT), (0, 1), 1),
                                  (FOUR, (0, 1, 2, 3), 2), (FOUR, (0, 2, 1, 3), 3), (FOUR, (0, 2, 3, 1), 3),
                                  (FOUR, (3, 2, 1, 0), 2), (FOUR[:3], (0, 2, 1), 3), (FOUR[:3], (2, 0, 1), 3)):
            with self.subTest(shares=shares, row=row):
                self.assertEqual(peak(shares, row), told)

    def test_all_rows_against_cells(self):
        chance = Chance(16)
        rows_differ = 0
        for trial in range(120):
            many, k = 1 + trial % 5, 2 + trial % 3
            shares = shares_apart(chance, many, k)
            rows = list(permutations(range(many)))
            peaks = [plain_peak(shares, row, k) for row in rows]
            self.assertEqual([peak(shares, row) for row in rows], peaks)
            self.assertEqual(least_peak(shares), min(peaks))
            self.assertEqual(best_row(shares), rows[peaks.index(min(peaks))])
            rows_differ += best_row(shares) != rows[0]
        self.assertGreater(rows_differ, 20)

    def test_the_first_row(self):
        self.assertEqual(best_row(((1, 0), (0, 1))), (0, 1))
        self.assertEqual(best_row((0, 0, 1)), (0, 1, 2))
        self.assertEqual(best_row((FOUR[0], FOUR[2], FOUR[1], FOUR[3])), (0, 2, 1, 3))
        self.assertEqual(best_row((FOUR[0], FOUR[2], 0, FOUR[1], FOUR[3])), (0, 2, 3, 1, 4))
        self.assertIs(type(best_row(FOUR)), tuple)

    def test_a_peak_that_is_not_the_last(self):
        shares = (FOUR[0], FOUR[3], (0, (1, 0)), ((0, 1), 0))
        self.assertEqual(peak(shares, (0, 1, 2, 3)), 3)
        self.assertEqual(least_peak(shares), 2)
        self.assertEqual(best_row(shares), (0, 3, 1, 2))

    def test_great_shares_raise_no_too_many(self):
        more = (0, full_share(5, (1, (1, 0))))
        self.assertEqual(peak((HALF_LEFT, more), (0, 1)), 64)
        self.assertEqual(least_peak((HALF_LEFT, more)), 64)
        self.assertEqual(best_row((more, HALF_LEFT)), (0, 1))
        quarters = [full_share(5)] * 4
        four = ((quarters[0], 0), 0), ((0, quarters[1]), 0), (0, (quarters[2], 0)), (0, (0, quarters[3]))
        self.assertEqual(peak(four, (3, 1, 0, 2)), 127)

    def test_the_whole_on_the_way_is_flat_again(self):
        gap = share_of([1 - cell for cell in cells(full_share(5), 5)])
        shares = ((full_share(5), 0), (0, full_share(5)), (gap, 0), (0, gap))
        self.assertEqual(peak(shares, (0, 1, 2, 3)), 63)
        self.assertEqual(peak(shares, (0, 2, 1, 3)), 32)
        self.assertEqual(least_peak(shares), 32)
        self.assertEqual(best_row(shares), (0, 2, 1, 3))

    def test_overlap_in_the_sequence_handed_in(self):
        shares = (FOUR[0], FOUR[3], (0, (0, 1)), 1)
        for call in (lambda: peak(shares, (3, 2, 1, 0)), lambda: peak(shares, (0, 1, 2, 3)),
                     lambda: least_peak(shares), lambda: best_row(shares)):
            with self.assertRaises(Overlap) as caught:
                call()
            self.assertEqual(caught.exception.path, (1, 1))

    def test_overlap_with_all_ahead_united(self):
        # Neither one ahead has the left half alone, both together do.
        for shares, path in (((FOUR[0], FOUR[1], LEFT), (0,)), ((FOUR[1], FOUR[0], 0, ((0, 1), 1)), (0, 1)),
                             ((LEFT, LEFT), (0,)), ((1, 1), ()), ((FOUR[3], LEFT, 1), (0,)),
                             ((0, FOUR[2], 0, (FOUR[2], (1, 0))), (1, 0))):
            for call in (lambda: peak(shares, tuple(range(len(shares)))), lambda: least_peak(shares),
                         lambda: best_row(shares)):
                with self.subTest(shares), self.assertRaises(Overlap) as caught:
                    call()
                self.assertEqual(caught.exception.path, path)

    def test_all_overlaps_of_two_halves(self):
        for one, other in combinations(all_shares(2), 2):
            told = outcome(united, one, other)
            if any(a * b for a, b in zip(cells(one, 2), cells(other, 2))):
                self.assertEqual(told[0], "Overlap")
                self.assertEqual(outcome(least_peak, (one, other)), told)
                self.assertEqual(outcome(best_row, (one, other)), told)
                self.assertEqual(outcome(peak, (one, other), (1, 0)), told)
            else:
                peaks = [plain_peak((one, other), row, 2) for row in ((0, 1), (1, 0))]
                self.assertEqual(best_row((one, other)), (0, 1) if peaks[0] <= peaks[1] else (1, 0))

    def test_what_is_no_row(self):
        for row in (None, True, 0, "", "01", [], [0, 1], (), (0,), (1,), (0, 0), (1, 1), (0, 2), (0, 1, 2), (0, 1, 1),
                    (0, -1), (-1, 0), (True, 0), (0, True), (0, "1"), (0, None), ((0, 1),), (0, (1,)), (0, [1]),
                    deep(40), (0, 1) * 1500, (10 ** 89, 0)):
            with self.subTest(row):
                self.assertRaises(InvalidRow, peak, (LEFT, RIGHT), row)
                # Ahead of what overlaps.
                self.assertRaises(InvalidRow, peak, (LEFT, LEFT), row)
        self.assertRaises(InvalidRow, peak, FOUR, (0, 1, 2, 2))
        self.assertRaises(InvalidRow, peak, FOUR, (0, 1, 2))

    def test_what_is_no_shares(self):
        for value in (None, True, 0, 1, "", "0", [], (), [0], (True,), (False, 0), (None,), ("0",), (2,), (-1,), ([],),
                      ((0, 0),), ((1, 1), 0), (0, 0, (1, (0, 0))), (0,) * 9, (0,) * 3000, (chain_share(13),),
                      (full_share(6, (1, (1, 0))),), (0, full_share(7)), deep(40), (0, 1, 0, [1, 0])):
            with self.subTest(value):
                self.assertRaises(InvalidShare, least_peak, value)
                self.assertRaises(InvalidShare, best_row, value)
                self.assertRaises(InvalidShare, peak, value, (0,))
                self.assertRaises(InvalidShare, peak, value, None)
        self.assertEqual(best_row((0,) * 8), tuple(range(8)))


if __name__ == "__main__":
    unittest.main()
