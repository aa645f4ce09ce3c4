"""[8], [9], [10]: counts and stamps, but for deeds and texts."""

import unittest

from heirstamps.counts import counts_text, is_counts, is_stamp, is_within, joined, raised, worth_at
from heirstamps.errors import InvalidCounts, InvalidPath, InvalidShare, TooMany
from tests.support import (
    all_counts, chain_counts, chain_share, counts_of, deep, full_counts, full_share, part_of, strange_values,
    tuples_in, worths,
)

# With 63 and 64 tuples.
MOST = full_counts(6)
BEYOND = full_counts(6, (0, (0, 1, 0), 0))


class IsCounts(unittest.TestCase):

    def test_counts(self):
        for value in (0, 1, 2, 10 ** 89, 10 ** 90, (0, 0, 1), (0, 1, 0), (7, 0, 3), (1, 0, (0, 2, 0)),
                      (0, (3, 1, 0), 0), (0, (0, 1, 0), 5), (0, (0, 1, 0), (0, 1, 0)), (2, (0, 0, 1), (9, 0, 1)),
                      (10 ** 89, 10 ** 89, 0), (0, 0, (4, 4, 0))):
            with self.subTest(value):
                self.assertIs(is_counts(value), True)

    def test_all_of_two_halves(self):
        for counts in all_counts(2, 3):
            self.assertIs(is_counts(counts), True)

    def test_other_values(self):
        for value in (-1, True, False, None, "0", "", "(0,0,1)", [], [0, 0, 1], (), (0,), (0, 1), (0, 0, 0),
                      (0, 1, 1), (0, 1, 2), (0, 2, 1), (3, 4, 4), (-1, 0, 1), (0, -1, 0), (0, 0, -1), (0, 0, 1, 0),
                      (True, 0, 1), (0, True, 0), (0, 0, True), (False, 0, 1), (0, False, 1), (0, 0, [1]),
                      ([0], 0, 1), (None, 0, 1), (0, None, 0), (0, 0, "1"), ("0", 0, 1), ((0, 0, 1), 0, 1),
                      (0, 0, (0, 0, 0)), (0, 0, (0, 1, 1)), (0, 0, (1, 0)), (0, (1, 0, 1), 1), (0, 1, (1, 0, 1)),
                      (0, (2, 1, 0), (1, 1, 0)), (0, (0, 0, True), 0), ((1, 0), 0, 1), (0, (0, (0, 2, 2), 0), 0)):
            with self.subTest(value):
                self.assertIs(is_counts(value), False)

    def test_nested_12_and_13_deep(self):
        self.assertIs(is_counts(chain_counts(12)), True)
        self.assertIs(is_counts(chain_counts(13)), False)
        self.assertIs(is_counts(chain_counts(40)), False)
        self.assertIs(is_counts((0, chain_counts(11), 3)), True)
        self.assertIs(is_counts((0, chain_counts(12), 3)), False)
        self.assertIs(is_counts((0, 3, chain_counts(12))), False)

    def test_63_and_64_tuples(self):
        self.assertEqual((tuples_in(MOST), tuples_in(BEYOND)), (63, 64))
        self.assertIs(is_counts(MOST), True)
        self.assertIs(is_counts(BEYOND), False)
        self.assertIs(is_counts(full_counts(7)), False)
        self.assertIs(is_counts((0, full_counts(5), full_counts(5))), True)
        self.assertIs(is_counts((0, 0, MOST)), False)

    def test_values_of_many_parts(self):
        for value in (full_counts(9), (0,) * 3000, [0] * 3000, deep(40), tuple([(0, 0, 1)] * 700)):
            self.assertIs(is_counts(value), False)


class WorthAt(unittest.TestCase):

    def test_worths(self):
        counts = (1, 0, (2, 0, (3, 0, 1)))
        for path, worth in (((), (1, 7)), ((0,), (1, 1)), ((0, 1, 1), (1, 1)), ((1,), (3, 7)), ((1, 0), (3, 3)),
                            ((1, 1), (6, 7)), ((1, 1, 0), (6, 6)), ((1, 1, 1), (7, 7)), ((1, 1, 1, 0), (7, 7))):
            with self.subTest(path):
                self.assertEqual(worth_at(counts, path), worth)
        self.assertEqual(worth_at(7, ()), (7, 7))
        self.assertEqual(worth_at(7, (0,) * 12), (7, 7))
        self.assertEqual(worth_at((2, 5, 0), (0,)), (7, 7))
        self.assertIs(type(worth_at(7, ())), tuple)

    def test_against_cells(self):
        for counts in all_counts(2, 2):
            row = worths(counts, 3)
            for path in ((), (0,), (1,), (0, 0), (0, 1), (1, 0), (1, 1), (0, 1, 0), (1, 1, 1)):
                part = part_of(row, path)
                self.assertEqual(worth_at(counts, path), (min(part), max(part)))

    def test_twelve_deep(self):
        self.assertEqual(worth_at(chain_counts(12), (1,) * 12), (1, 1))
        self.assertEqual(worth_at(chain_counts(12), (1,) * 11), (0, 1))
        self.assertEqual(worth_at(chain_counts(12), (1,) * 11 + (0,)), (0, 0))

    def test_wrong_paths(self):
        for path in (0, None, True, "", [], [1], (2,), (True,), (-1,), ("1",), ((1,),), (0,) * 13, deep(40)):
            with self.subTest(path), self.assertRaises(InvalidPath):
                worth_at((0, 1, 0), path)


class Joined(unittest.TestCase):

    def test_counts(self):
        self.assertEqual(joined(0, 0), 0)
        self.assertEqual(joined(3, 5), 5)
        self.assertEqual(joined((0, 1, 0), 0), (0, 1, 0))
        self.assertEqual(joined((0, 1, 0), 1), 1)
        self.assertEqual(joined((0, 1, 0), (0, 0, 1)), 1)
        self.assertEqual(joined((2, 1, 0), (0, 0, 9)), (3, 0, 6))
        self.assertEqual(joined((0, (0, 1, 0), 2), (0, 0, (1, 0, 4))), (0, (0, 1, 0), (2, 0, 3)))

    def test_all_pairs_against_cells(self):
        rows = all_counts(2, 2)
        for one in rows:
            for other in rows:
                greater = [max(pair) for pair in zip(worths(one, 2), worths(other, 2))]
                self.assertEqual(joined(one, other), counts_of(greater))

    def test_63_tuples(self):
        self.assertEqual(joined((0, full_counts(5), 0), (0, 0, full_counts(5))), MOST)
        self.assertEqual(joined(MOST, 0), MOST)

    def test_64_tuples(self):
        one, other = (0, full_counts(5), 0), (0, 0, full_counts(5, (0, (0, 1, 0), 0)))
        for pair in ((one, other), (other, one)):
            with self.assertRaises(TooMany) as caught:
                joined(*pair)
            self.assertEqual(caught.exception.count, 63)

    def test_many_tuples_that_go_up_in_others(self):
        self.assertEqual(joined(MOST, 1), 1)
        self.assertEqual(joined((0, full_counts(5), 1), (0, 1, full_counts(5, (0, (0, 1, 0), 0)))), 1)

    def test_twelve_deep(self):
        self.assertEqual(joined(chain_counts(12), (0, 1, 0)), (0, 1, chain_counts(11)))


class IsWithin(unittest.TestCase):

    def test_counts(self):
        for one, other, answer in ((0, 0, True), (0, 1, True), (1, 0, False), ((0, 1, 0), 1, True),
                                   (1, (0, 1, 0), False), ((0, 1, 0), (0, 0, 1), False), ((0, 0, 1), (0, 1, 0), False),
                                   ((0, 1, 0), (1, 0, 5), True), ((0, 2, 0), (1, 0, 5), False)):
            with self.subTest(one=one, other=other):
                self.assertIs(is_within(one, other), answer)

    def test_all_pairs_against_cells(self):
        rows = all_counts(2, 2)
        for one in rows:
            for other in rows:
                answer = all(a <= b for a, b in zip(worths(one, 2), worths(other, 2)))
                self.assertIs(is_within(one, other), answer)

    def test_nothing_is_raised_of_great_ones(self):
        one, other = (0, full_counts(5), 0), (0, 0, full_counts(5, (0, (0, 1, 0), 0)))
        self.assertIs(is_within(one, other), False)
        self.assertIs(is_within(other, one), False)
        self.assertIs(is_within(one, (1, 0, full_counts(5))), True)


class IsStamp(unittest.TestCase):

    def test_stamps(self):
        for value in ((1, 0), (0, 0), (1, 5), ((1, 0), (0, 1, 0)), (0, (2, 0, 1)), ((0, (1, 0)), 10 ** 89),
                      (full_share(6), MOST), (chain_share(12), chain_counts(12))):
            with self.subTest(value):
                self.assertIs(is_stamp(value), True)

    def test_other_values(self):
        for value in (None, True, 0, 1, "10", (), (1,), (1, 0, 0), [1, 0], (2, 0), (0, -1), (True, 0), (1, True),
                      (1, False), ("1", 0), (1, "0"), (1, None), ((0, 0), 0), (1, (0, 1, 1)), ((0, 1, 0), 1),
                      ((0, 1, 0), (1, 0)), ([1, 0], 0), (1, [0, 1, 0]), (chain_share(13), 0), (1, chain_counts(13)),
                      (full_share(6, (1, (1, 0))), 0), (1, BEYOND), (1, (1, 0)), ((1, 1), 3)):
            with self.subTest(value):
                self.assertIs(is_stamp(value), False)

    def test_strange_values(self):
        # Of these, just the pairs of a share and an integer are stamps.
        stamps = [(0, 2), (0, 0), (1, 1)]
        for value in strange_values():
            with self.subTest(value):
                plain = isinstance(value, tuple) and [type(part) for part in value] == [int, int]
                self.assertIs(is_stamp(value), plain and value in stamps)


class WrongCounts(unittest.TestCase):

    def test_each_function(self):
        wrong = (-1, True, False, None, "1", "(0,0,1)", [0, 0, 1], (), (0,), (1, 0), (0, 0, 0), (0, 1, 2),
                 (0, True, 0), (0, 0, (0, 3, 3)), chain_counts(13), BEYOND, deep(40), (0,) * 3000)
        for value in wrong:
            with self.subTest(value):
                self.assertRaises(InvalidCounts, counts_text, value)
                for call in (joined, is_within):
                    self.assertRaises(InvalidCounts, call, value, 0)
                    self.assertRaises(InvalidCounts, call, 0, value)
                    self.assertRaises(InvalidCounts, call, value, value)
                self.assertRaises(InvalidCounts, worth_at, value, ())
                self.assertRaises(InvalidCounts, worth_at, value, (2,))
                self.assertRaises(InvalidCounts, raised, 1, value)
                self.assertRaises(InvalidCounts, raised, 0, value)
                self.assertRaises(InvalidShare, raised, 2, value)


if __name__ == "__main__":
    unittest.main()
