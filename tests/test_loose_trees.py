"""[15]: loose trees, and worths spread and gathered."""

import unittest
from itertools import product

from heirstamps.compared import gathered, is_loose, least_form, spread
from heirstamps.counts import is_counts
from heirstamps.errors import InvalidCount, InvalidCounts, InvalidLoose, InvalidWorths, Refused, TooMany
from tests.support import (
    Chance, all_counts, chain_counts, counts_of, deep, full_counts, strange_values, tuples_in, worths,
)


def plain_loose(value, deepest=12):
    """Whether a value is a loose tree but for the number of its tuples, as [15] tells it."""
    if repr(value).isdigit():
        return True
    if type(value) is not tuple or len(value) != 3 or deepest == 0 or not repr(value[0]).isdigit():
        return False
    return all(plain_loose(part, deepest - 1) for part in value[1:])


def full_loose(deep_to, last=(0, 0, 0), other=1):
    """A loose tree with 2 ** deep_to - 1 tuples, no worth of which is unlike others; the last one may be."""
    if deep_to == 1:
        return last
    return (other, full_loose(deep_to - 1), full_loose(deep_to - 1, last))


def chain_loose(times, end=0):
    """A loose tree nested so deep along the left halves."""
    for _ in range(times):
        end = (1, end, 2)
    return end


def some_loose(chance, deepest):
    """A loose tree of small numbers."""
    if deepest == 0 or chance.below(3) == 0:
        return chance.below(3)
    return (chance.below(3), some_loose(chance, deepest - 1), some_loose(chance, deepest - 1))


class IsLoose(unittest.TestCase):

    def test_loose_trees(self):
        for value in (0, 7, 10 ** 89, (0, 0, 0), (0, 1, 1), (3, 4, 4), (0, 1, 2), (1, 0, 0), (0, (0, 0, 0), 0),
                      (2, 1, (0, 1, 2)), (0, (1, 2, 2), 3), (10 ** 89, 10 ** 89, 10 ** 89)):
            with self.subTest(value):
                self.assertIs(is_loose(value), True)

    def test_all_counts_are_loose(self):
        for counts in all_counts(2, 2) + [full_counts(6), chain_counts(12)]:
            self.assertIs(is_loose(counts), True)

    def test_other_values(self):
        for value in (None, True, False, -1, "0", "", (), (0,), (0, 0), (0, 0, 0, 0), [0, 0, 0], (0, 0, [0, 0, 0]),
                      (True, 0, 0), (0, True, 0), (0, 0, False), (-1, 0, 0), (0, -1, 0), (0, 0, -1), (None, 0, 0),
                      ((0, 0, 0), 0, 0), ("0", 0, 0), (0, "0", 0), (0, 0, (0, 0)), (0, (0, 0, (0, 0, None)), 0)):
            with self.subTest(value):
                self.assertIs(is_loose(value), False)

    def test_strange_values(self):
        for value in strange_values():
            with self.subTest(value):
                self.assertIs(is_loose(value), plain_loose(value))

    def test_nested_12_and_13_deep(self):
        for tree, answer in ((chain_loose(12), True), (chain_loose(13), False), (chain_loose(40), False),
                             ((0, 0, chain_loose(11)), True), ((0, 0, chain_loose(12)), False),
                             ((0, chain_loose(12), 0), False), (chain_counts(12), True), (chain_counts(13), False)):
            self.assertIs(is_loose(tree), answer)

    def test_63_and_64_tuples(self):
        for tree, many in ((full_loose(6), 63), (full_loose(6, (0, 0, (0, 0, 0))), 64), (full_loose(7), 127),
                           ((0, full_loose(5), full_loose(5)), 63), ((0, full_loose(6), 0), 64),
                           (full_loose(9), 511)):
            self.assertEqual(tuples_in(tree), many)
            self.assertIs(is_loose(tree), many < 64)


class LeastForm(unittest.TestCase):

    def test_trees(self):
        for loose, counts in ((0, 0), (7, 7), ((0, 0, 0), 0), ((0, 1, 1), 1), ((3, 4, 4), 7), ((0, 1, 2), (1, 0, 1)),
                              ((2, 5, 3), (5, 2, 0)), ((0, (1, 2, 2), (3, 0, 0)), 3), ((0, (1, 2, 3), 0), (0, (3, 0, 1), 0)),
                              ((1, (1, 1, 2), (0, 2, 3)), (3, (0, 0, 1), (0, 0, 1))), (10 ** 89, 10 ** 89)):
            with self.subTest(loose):
                self.assertEqual(least_form(loose), counts)

    def test_against_cells(self):
        chance = Chance(15)
        for _ in range(500):
            loose = some_loose(chance, 4)
            self.assertEqual(least_form(loose), counts_of(worths(loose, 4)))

    def test_great_ones(self):
        self.assertEqual(least_form(full_loose(6)), 5)
        self.assertEqual(tuples_in(least_form(full_loose(6, (0, 0, 1)))), 6)
        level = 2
        for at in range(12):
            level = (1, level, at + 2)
        self.assertEqual(least_form(level), 14)
        self.assertEqual(tuples_in(least_form(chain_loose(12, 1))), 12)
        self.assertEqual(least_form(full_counts(6)), full_counts(6))

    def test_what_is_no_loose_tree(self):
        for value in (None, True, -1, "0", [], (), (0, 0), [0, 0, 0], (0, 0, True), chain_loose(13), full_loose(7),
                      full_loose(6, (0, 0, (0, 0, 0))), deep(40)):
            with self.subTest(value):
                self.assertRaises(InvalidLoose, least_form, value)


class Spread(unittest.TestCase):

    def test_counts(self):
        for counts, number, told in ((0, 0, (0,)), (7, 0, (7,)), (7, 1, (7, 7)), (3, 2, (3,) * 4),
                                     ((0, 1, 0), 1, (1, 0)), ((2, 0, 3), 1, (2, 5)), ((2, 0, 3), 2, (2, 2, 5, 5)),
                                     ((1, (0, 1, 0), 3), 2, (2, 1, 4, 4))):
            with self.subTest(counts=counts, number=number):
                self.assertEqual(spread(counts, number), told)
                self.assertIs(type(spread(counts, number)), tuple)

    def test_against_cells(self):
        for counts in all_counts(2, 2):
            for number in range(5):
                depth = max(number, 2)
                size = 2 ** (depth - number)
                row = worths(counts, depth)
                groups = [row[at:at + size] for at in range(0, len(row), size)]
                if all(len(set(group)) == 1 for group in groups):
                    self.assertEqual(spread(counts, number), tuple(group[0] for group in groups))
                else:
                    self.assertRaises(Refused, spread, counts, number)

    def test_parts_of_unlike_worth(self):
        self.assertRaises(Refused, spread, (0, 1, 0), 0)
        self.assertRaises(Refused, spread, (0, (0, 1, 0), 5), 1)
        self.assertRaises(Refused, spread, (0, 5, (0, 1, 0)), 1)
        for number in range(9):
            self.assertRaises(Refused, spread, chain_counts(9), number)

    def test_8_and_9_halves(self):
        self.assertEqual(spread(4, 8), (4,) * 256)
        self.assertEqual(spread(chain_counts(8), 8), (0,) * 255 + (1,))
        for call in ((4, 9), (chain_counts(8), 9), (chain_counts(9), 9), (4, 10 ** 89)):
            self.assertRaises(InvalidCount, spread, *call)

    def test_wrong_numbers(self):
        for number in (-1, -8, 9, True, False, None, "2", "", [2], (2,), (), deep(40), 10 ** 89):
            with self.subTest(number):
                self.assertRaises(InvalidCount, spread, 4, number)
                # Also where the counts could be refused.
                self.assertRaises(InvalidCount, spread, chain_counts(9), number)
                self.assertRaises(InvalidCounts, spread, (0, 1, 1), number)


class Gathered(unittest.TestCase):

    def test_worths(self):
        for told, counts in (((0,), 0), ((9,), 9), ((1, 1), 1), ((1, 0), (0, 1, 0)), ((2, 5), (2, 0, 3)),
                             ((2, 1, 4, 4), (1, (0, 1, 0), 3)), ((1, 1, 3, 1), (1, 0, (0, 2, 0))),
                             ((10 ** 89, 0), (0, 10 ** 89, 0)), ((6,) * 256, 6)):
            with self.subTest(told):
                self.assertEqual(gathered(told), counts)

    def test_all_of_four_and_some_of_more(self):
        for row in product(range(3), repeat=4):
            self.assertEqual(gathered(row), counts_of(list(row)))
        chance = Chance(2)
        for size in (8, 16, 32, 64):
            row = [chance.below(3) for _ in range(size)]
            self.assertEqual(gathered(tuple(row)), counts_of(row))

    def test_63_and_64_tuples(self):
        row = worths(full_counts(6), 6)
        self.assertEqual(gathered(tuple(row)), full_counts(6))
        twice = [worth for worth in row for _ in range(4)]
        self.assertEqual(gathered(tuple(twice)), full_counts(6))
        for more in ([twice[0] + 1] + twice[1:], [5] * 255 + [6], list(range(256)), [0, 1] * 128, [0, 1] * 64):
            counts = counts_of(more)
            if is_counts(counts):
                self.assertEqual(gathered(tuple(more)), counts)
                continue
            with self.assertRaises(TooMany) as caught:
                gathered(tuple(more))
            self.assertEqual(caught.exception.count, 63)
        self.assertEqual(tuples_in(counts_of([twice[0] + 1] + twice[1:])), 65)
        self.assertFalse(is_counts(counts_of([0, 1] * 64)))

    def test_64_tuples(self):
        row = [worth for worth in worths(full_counts(6), 6) for _ in range(2)]
        row[0] += 1
        self.assertEqual(tuples_in(counts_of(row)), 64)
        self.assertRaises(TooMany, gathered, tuple(row))

    def test_lengths(self):
        for length in range(1, 520):
            if length in (1, 2, 4, 8, 16, 32, 64, 128, 256):
                self.assertEqual(gathered((3,) * length), 3)
            else:
                self.assertRaises(InvalidWorths, gathered, (3,) * length)
        for worths_told in ((), (1, 2, 3), (1, 2, 3) * 2, (1,) * 512, (1,) * 1024, (0,) * 3000):
            self.assertRaises(InvalidWorths, gathered, worths_told)

    def test_what_is_no_worths(self):
        for value in (None, True, 0, 4, "", "0", "00", [], [0], [0, 1], (True,), (0, False), (-1,), (0, -1), (None,),
                      ("0",), (0, "1"), (0, [1]), (0, (0,)), ((0, 1),), (0, 1, 2, None), deep(40),
                      (0,) * 255 + (None,), (0,) * 255 + (True,), (0,) * 255 + (-1,)):
            with self.subTest(value):
                self.assertRaises(InvalidWorths, gathered, value)


if __name__ == "__main__":
    unittest.main()
