"""[6], [7]: shares, but for their texts."""

import unittest

from heirstamps.errors import InvalidPath, InvalidShare, Overlap, Refused, TooMany
from heirstamps.shares import halved, is_share, less, owned_paths, share_at, share_text, united
from tests.support import all_shares, cells, chain_share, deep, full_share, paths_of, share_of, tuples_in

# With 63 and 64 tuples.
MOST = full_share(6)
BEYOND = full_share(6, (1, (1, 0)))


class IsShare(unittest.TestCase):

    def test_shares(self):
        for value in (0, 1, (0, 1), (1, 0), ((1, 0), 0), ((1, 0), (1, 0)), (1, (0, 1)), ((0, 1), 1)):
            with self.subTest(value):
                self.assertIs(is_share(value), True)

    def test_all_of_three_halves(self):
        for share in all_shares(3):
            self.assertIs(is_share(share), True)

    def test_other_values(self):
        for value in (2, -1, 10 ** 89, True, False, None, "0", "1", "(1,0)", [], [0], [0, 1], (), (0,), (1,),
                      (0, 1, 0), (0, 0), (1, 1), (0, 2), (2, 0), (-1, 0), (True, 0), (0, True), (False, 1),
                      (1, False), (0, [0, 1]), ([1, 0], 0), ("1", 0), (0, "1"), (None, 1), (0, None),
                      (0, (0, 0)), ((1, 1), 0), ((0, 0), 1), (1, (1, 1)), (0, ()), (0, (1,)), ((1, 0, 0), 0),
                      ((0, (0, True)), 1), (0, ((1, 0), (0, (1, 1))))):
            with self.subTest(value):
                self.assertIs(is_share(value), False)

    def test_nested_12_and_13_deep(self):
        for halves in ((0,), (1,), (0, 1), (1, 1, 0)):
            self.assertIs(is_share(chain_share(12, halves)), True)
            self.assertIs(is_share(chain_share(13, halves)), False)
            self.assertIs(is_share(chain_share(40, halves)), False)
        self.assertIs(is_share((1, chain_share(11))), True)
        self.assertIs(is_share((1, chain_share(12))), False)
        self.assertIs(is_share((chain_share(12), 1)), False)

    def test_63_and_64_tuples(self):
        self.assertEqual((tuples_in(MOST), tuples_in(BEYOND)), (63, 64))
        self.assertIs(is_share(MOST), True)
        self.assertIs(is_share(BEYOND), False)
        self.assertIs(is_share(full_share(7)), False)
        self.assertIs(is_share((full_share(5), full_share(5))), True)
        self.assertIs(is_share((full_share(5), (full_share(4), full_share(5)))), False)

    def test_values_of_many_parts(self):
        for value in (full_share(10), (0,) * 3000, [0] * 3000, deep(40), tuple([(0, 1)] * 900)):
            self.assertIs(is_share(value), False)


class ShareAt(unittest.TestCase):

    def test_parts(self):
        share = ((0, (1, 0)), 1)
        for path, part in (((), share), ((0,), (0, (1, 0))), ((1,), 1), ((0, 0), 0), ((0, 1), (1, 0)),
                           ((0, 1, 0), 1), ((0, 1, 1), 0), ((1, 0, 1, 1), 1), ((0, 0, 1), 0)):
            with self.subTest(path):
                self.assertEqual(share_at(share, path), part)

    def test_paths_of_twelve(self):
        self.assertEqual(share_at(chain_share(12, (0, 1)), (0, 1) * 6), 1)
        self.assertEqual(share_at(chain_share(12, (0, 1)), (0, 1) * 5 + (0, 0)), 0)
        self.assertEqual(share_at(1, (0,) * 12), 1)

    def test_against_cells(self):
        for share in all_shares(3):
            row = cells(share, 3)
            for path in ((), (0,), (1,), (1, 0), (0, 1), (1, 1, 0)):
                first = sum(half * 8 // 2 ** (at + 1) for at, half in enumerate(path))
                self.assertEqual(share_at(share, path), share_of(row[first:first + 8 // 2 ** len(path)]))

    def test_wrong_paths(self):
        for path in (0, 1, None, True, "", "0", [], [0], (2,), (-1,), (0, 2), (True,), (0, False), ("0",), ((),),
                     ((0,),), (None,), (0,) * 13, (0,) * 3000, deep(40)):
            with self.subTest(path), self.assertRaises(InvalidPath):
                share_at((1, 0), path)


class Halved(unittest.TestCase):

    def test_of_the_whole(self):
        self.assertEqual(halved(1), ((1, 0), (0, 1)))

    def test_of_one_half(self):
        self.assertEqual(halved((0, 1)), ((0, (1, 0)), (0, (0, 1))))
        self.assertEqual(halved((1, 0)), (((1, 0), 0), ((0, 1), 0)))
        self.assertEqual(halved((0, (0, 1))), ((0, (0, (1, 0))), (0, (0, (0, 1)))))
        self.assertEqual(halved((((0, 1), 0), 0)), ((((0, (1, 0)), 0), 0), (((0, (0, 1)), 0), 0)))

    def test_of_parts_of_both_halves(self):
        self.assertEqual(halved((1, (0, 1))), ((1, 0), (0, (0, 1))))
        self.assertEqual(halved(((1, 0), (0, 1))), (((1, 0), 0), (0, (0, 1))))
        self.assertEqual(halved(((1, 0), 1)), (((1, 0), 0), (0, 1)))
        self.assertEqual(halved((0, ((0, 1), 1))), ((0, ((0, 1), 0)), (0, (0, 1))))

    def test_as_deep_as_may_be(self):
        halves = (1, 0, 0)
        kept, given = halved(chain_share(11, halves))
        self.assertEqual(kept, chain_share(11, halves, (1, 0)))
        self.assertEqual(given, chain_share(11, halves, (0, 1)))

    def test_too_deep(self):
        for halves in ((0,), (1,), (0, 1)):
            with self.assertRaises(TooMany) as caught:
                halved(chain_share(12, halves))
            self.assertEqual(caught.exception.count, 12)

    def test_deep_ones_that_part_higher_up(self):
        both = (chain_share(11), chain_share(11, (1,)))
        self.assertEqual(halved(both), ((chain_share(11), 0), (0, chain_share(11, (1,)))))
        late = chain_share(11, (0,), (1, 0))
        with self.assertRaises(TooMany):
            halved(late)
        self.assertEqual(halved((late[0], 1)), ((late[0], 0), (0, 1)))

    def test_nothing_is_refused(self):
        with self.assertRaises(Refused):
            halved(0)

    def test_many_tuples_part(self):
        self.assertEqual(halved(MOST), ((MOST[0], 0), (0, MOST[1])))


class United(unittest.TestCase):

    def test_shares(self):
        self.assertEqual(united(0, 0), 0)
        self.assertEqual(united(1, 0), 1)
        self.assertEqual(united(0, 1), 1)
        self.assertEqual(united((1, 0), (0, 1)), 1)
        self.assertEqual(united(((1, 0), 0), ((0, 1), 0)), (1, 0))
        self.assertEqual(united(((1, 0), (0, 1)), ((0, 1), (1, 0))), 1)
        self.assertEqual(united((0, ((0, 1), 0)), ((0, 1), (0, 1))), ((0, 1), ((0, 1), 1)))

    def test_all_pairs_against_cells(self):
        small = all_shares(2)
        large = all_shares(3)
        for pairs in ([(a, b) for a in small for b in large], [(a, b) for a in large[::5] for b in large[::3]]):
            for one, other in pairs:
                rows = list(zip(cells(one, 3), cells(other, 3)))
                common = paths_of([a * b for a, b in rows])
                if common:
                    with self.assertRaises(Overlap) as caught:
                        united(one, other)
                    self.assertEqual(caught.exception.path, common[0])
                else:
                    self.assertEqual(united(one, other), share_of([a + b for a, b in rows]))

    def test_the_first_path_and_no_longer_one(self):
        for one, other, path in (
                (1, 1, ()), (1, (0, 1), (1,)), ((0, 1), (1, (0, 1)), (1, 1)), ((1, 0), (1, 0), (0,)),
                ((1, (0, 1)), (1, (0, 1)), (0,)), (((0, 1), 1), ((0, 1), 1), (0, 1)),
                (((0, 1), 1), ((1, 0), 1), (1,)), (((0, (0, 1)), 1), (1, 0), (0, 1, 1)),
                (((0, (0, 1)), (1, 0)), (0, 1), (1, 0)), (chain_share(12), 1, (0,) * 12)):
            for pair in ((one, other), (other, one)):
                with self.subTest(pair), self.assertRaises(Overlap) as caught:
                    united(*pair)
                self.assertEqual(caught.exception.path, path)

    def test_63_tuples(self):
        one, other = (full_share(5), 0), (0, full_share(5))
        self.assertEqual(united(one, other), MOST)
        self.assertEqual(united(other, one), MOST)
        self.assertEqual(united(full_share(6), 0), MOST)

    def test_64_tuples(self):
        one, other = (full_share(5), 0), (0, full_share(5, (1, (1, 0))))
        for pair in ((one, other), (other, one)):
            with self.assertRaises(TooMany) as caught:
                united(*pair)
            self.assertEqual(caught.exception.count, 63)

    def test_many_tuples_that_go_up_in_others(self):
        holes = less(1, MOST)
        self.assertEqual(united(MOST, holes), 1)
        self.assertEqual(united((MOST[0], 0), (holes[0], holes[1])), (1, holes[1]))

    def test_overlap_ahead_of_too_many(self):
        # Both together would have 64 tuples, whatever of their overlap is left aside.
        one, other = (full_share(5), chain_share(5)), (0, full_share(5, (1, (1, 0))))
        for pair in ((one, other), (other, one)):
            with self.assertRaises(Overlap) as caught:
                united(*pair)
            self.assertEqual(caught.exception.path, (1, 0, 0, 0, 0, 0))


class Less(unittest.TestCase):

    def test_shares(self):
        self.assertEqual(less(1, 1), 0)
        self.assertEqual(less(0, 1), 0)
        self.assertEqual(less(0, (0, 1)), 0)
        self.assertEqual(less((0, 1), 0), (0, 1))
        self.assertEqual(less((0, 1), (1, 0)), (0, 1))
        self.assertEqual(less((1, (0, 1)), ((1, 0), 1)), ((0, 1), 0))

    def test_all_pairs_against_cells(self):
        small = all_shares(2)
        large = all_shares(3)
        for pairs in ([(a, b) for a in small for b in large], [(a, b) for a in large[::5] for b in large[::3]]):
            for one, other in pairs:
                rows = zip(cells(one, 3), cells(other, 3))
                self.assertEqual(less(one, other), share_of([a * (1 - b) for a, b in rows]))

    def test_63_tuples(self):
        self.assertEqual(tuples_in(less(1, MOST)), 63)
        half = full_share(5)
        self.assertEqual(less((1, half), (less(1, half), 0)), (half, half))
        self.assertEqual(less(MOST, 0), MOST)

    def test_64_tuples(self):
        half, rest = full_share(5, (1, (1, 0))), less(1, full_share(5))
        with self.assertRaises(TooMany) as caught:
            less((1, half), (rest, 0))
        self.assertEqual(caught.exception.count, 63)

    def test_twelve_deep(self):
        chain = chain_share(12, (0, 1, 1))
        self.assertEqual(united(less(1, chain), chain), 1)
        self.assertEqual(less(1, less(1, chain)), chain)


class OwnedPaths(unittest.TestCase):

    def test_paths(self):
        self.assertEqual(owned_paths(0), [])
        self.assertEqual(owned_paths(1), [()])
        self.assertEqual(owned_paths((1, (0, 1))), [(0,), (1, 1)])
        self.assertEqual(owned_paths((((0, 1), 0), (1, 0))), [(0, 0, 1), (1, 0)])
        self.assertEqual(owned_paths(chain_share(12, (1, 0))), [(1, 0) * 6])

    def test_all_against_cells(self):
        for share in all_shares(3):
            found = owned_paths(share)
            self.assertIsInstance(found, list)
            self.assertEqual(found, paths_of(cells(share, 3)))
            self.assertEqual(found, sorted(found))

    def test_the_list_is_new(self):
        share = (1, (0, 1))
        first = owned_paths(share)
        first.append("more")
        first[0] = None
        self.assertEqual(owned_paths(share), [(0,), (1, 1)])


class WrongShares(unittest.TestCase):

    def test_each_function(self):
        wrong = (2, -1, True, False, None, "1", "(0,1)", [0, 1], (), (1,), (0, 0), (1, 1), (0, 1, 0), (True, 0),
                 (0, (1, 1)), chain_share(13), BEYOND, deep(40), (0,) * 3000)
        for value in wrong:
            with self.subTest(value):
                for call in (halved, owned_paths, share_text):
                    self.assertRaises(InvalidShare, call, value)
                for call in (united, less):
                    self.assertRaises(InvalidShare, call, value, 0)
                    self.assertRaises(InvalidShare, call, 0, value)
                    self.assertRaises(InvalidShare, call, 1, value)
                    self.assertRaises(InvalidShare, call, value, value)
                self.assertRaises(InvalidShare, share_at, value, ())
                self.assertRaises(InvalidShare, share_at, value, (2,))


if __name__ == "__main__":
    unittest.main()
