"""The files that the interface does not list, as far as its functions do not show what they do."""

import unittest
from itertools import combinations

from heirstamps.cliques import greatest_clique
from heirstamps.hearing import hearing_behind
from heirstamps.lots import all_lots, is_part, lot_of, mask_of
from heirstamps.orders import RowSharing, longest_row_of, row_lengths
from heirstamps.realizers import realizer_of
from heirstamps.standing import standing_behind
from heirstamps.unions import merge_peaks, overlap_path, peaks_ahead, union_sizes
from tests.plain import antichains_of, orders, rows_of
from tests.support import Chance


class Lots(unittest.TestCase):

    def test_masks(self):
        for lot, mask in (((), 0), ((0,), 1), ((3,), 8), ((0, 1, 5), 35), (tuple(range(60)), 2 ** 60 - 1)):
            self.assertEqual(mask_of(lot), mask)
            self.assertEqual(lot_of(mask), lot)

    def test_is_part(self):
        for one in range(16):
            for other in range(16):
                self.assertIs(is_part(one, other), set(lot_of(one)) <= set(lot_of(other)))

    def test_lot_order(self):
        self.assertEqual(all_lots([]), [()])
        self.assertEqual(all_lots([1, 4, 6]), [(), (1,), (4,), (6,), (1, 4), (1, 6), (4, 6), (1, 4, 6)])
        self.assertEqual(len(all_lots(list(range(8)))), 256)


class Cliques(unittest.TestCase):

    def test_against_a_plain_search(self):
        chance = Chance(77)
        for trial in range(200):
            many = trial % 9
            pairs = {pair for pair in combinations(range(many), 2) if chance.below(4) <= trial % 4}
            friends = [mask_of([other for other in range(many) if tuple(sorted((one, other))) in pairs])
                       for one in range(many)]
            lots = [lot for lot in all_lots(list(range(many))) if set(combinations(lot, 2)) <= pairs]
            most = max(len(lot) for lot in lots)
            self.assertEqual(greatest_clique(friends), min(lot for lot in lots if len(lot) == most))


class Orders(unittest.TestCase):

    def test_rows_and_lots_apart(self):
        for known in orders(4):
            below = [mask_of(lot) for lot in known]
            rows = rows_of(known)
            self.assertEqual(row_lengths(below), [max(len(row) for row in rows if row[-1] == deed) for deed in range(4)])
            self.assertIn(longest_row_of(below), rows)
            sharing = RowSharing(below)
            self.assertTrue(all(row in rows for row in sharing.rows()))
            self.assertIn(sharing.apart(), antichains_of(known))
            self.assertEqual(len(sharing.apart()), len(sharing.rows()))

    def test_realizers(self):
        for known in orders(5)[::3]:
            sequences = realizer_of([mask_of(lot) for lot in known])
            for places in sequences:
                self.assertEqual(sorted(places), list(range(5)))
            for deed, lot in enumerate(known):
                behind = [other for other in range(5) if all(places[other] < places[deed] for places in sequences)]
                self.assertEqual(tuple(behind), lot)


class Unions(unittest.TestCase):

    def test_sizes(self):
        shares = ((1, 0), (0, (1, 0)), (0, (0, 1)))
        self.assertEqual(union_sizes(shares), [0, 1, 2, 2, 2, 2, 1, 0])
        self.assertEqual(union_sizes(()), [0])
        self.assertIsNone(overlap_path(shares))
        self.assertEqual(overlap_path(shares + (0, (0, 1))), (1,))

    def test_peaks(self):
        # By one sequence or another, three things of which just 0 and 2, or all of them, are flat together.
        sizes = [0, 1, 1, 9, 1, 1, 9, 0]
        self.assertEqual(peaks_ahead(sizes)[0], 1)
        self.assertEqual(peaks_ahead(sizes)[2], 9)
        peaks, splits = merge_peaks(sizes)
        self.assertEqual((peaks[7], splits[7]), (1, 5))
        self.assertEqual((peaks[3], splits[3]), (9, 1))
        self.assertEqual([splits[mask] for mask in (1, 2, 4)], [0, 0, 0])


class Hearings(unittest.TestCase):

    def test_the_one_behind_is_new(self):
        standing = standing_behind((("fork", 0), ("deed", 0)))
        later = hearing_behind(standing, (("deed", 1), ("hear", 0, 1), ("fork", 0), ("lose", 1)))
        self.assertEqual(standing.heard_by, {0: (0,), 1: ()})
        self.assertEqual((standing.doers, standing.known, standing.next_mark), ([0], [(0,)], 2))
        self.assertEqual(later.heard_by, {0: (0, 1), 2: (0, 1)})
        self.assertEqual((later.doers, later.known, later.next_mark), ([0, 1], [(0,), (1,)], 3))
        self.assertIsNone(hearing_behind(standing, (("deed", 2),)))


if __name__ == "__main__":
    unittest.main()
