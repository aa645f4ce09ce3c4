"""[25]: shelves, merged, and behind deeds."""

import unittest
from itertools import combinations

from heirstamps.counts import joined, raised
from heirstamps.dots import dot_behind, has_dot, is_shelf, least_counts, merged, put, struck_off
from heirstamps.errors import InvalidDots, InvalidShare, InvalidShelf, Refused, TooMany
from tests.support import chain_share, full_counts, strange_values, tuples_in

LEFT, RIGHT = (0,), (1,)


def row(path, many, first=1):
    """So many dots with one path."""
    return tuple((path, worth) for worth in range(first, first + many))


def small_shelves():
    """Shelves of some counts, and of all lots of some dots that these have."""
    dots = [((), 1), (LEFT, 1), (LEFT, 2), (RIGHT, 1), ((1, 0), 2)]
    found = []
    for counts in (0, 1, 2, (0, 1, 0), (0, 0, 1), (1, 1, 0), (0, 2, 1), (0, 0, (0, 2, 0)), (1, 0, (0, 1, 0))):
        for size in range(len(dots) + 1):
            for lot in combinations(dots, size):
                if is_shelf((counts, lot)):
                    found.append((counts, lot))
    return found


def wide(path, many):
    """Counts with so many tuples at least that all are nested beneath this path, and one dot that they have."""
    ends = [path + tuple(at >> k & 1 for k in range(3)) + (0,) * 5 for at in range(many)]
    return least_counts(tuple(sorted((end, 1) for end in ends)))


class IsShelf(unittest.TestCase):

    def test_shelves(self):
        for value in ((0, ()), (3, (((), 1), ((), 3))), ((0, 1, 0), ((LEFT, 1),)), ((0, 1, 0), (((0, 1, 1), 1),)),
                      (1, (((1,) * 12, 1),)), (40, row((), 40)), (10 ** 89, (((), 10 ** 89),)),
                      ((2, 0, 1), ((RIGHT, 3),))):
            self.assertIs(is_shelf(value), True)

    def test_others(self):
        for value in ((0, (((), 1),)), ((0, 1, 0), ((RIGHT, 1),)), ((0, 1, 0), (((), 1),)), (3, (((), 4),)),
                      (41, row((), 41)), (3, (((), 2), ((), 1))), (3, (((), 1), ((), 1))), (3, [((), 1)]), [3, ()],
                      (3, ((), 1)), (3,), (3, (), ()), ((), 3), (True, ()), ((0, 1, 1), ()), (3, None), (3, 0),
                      ((0, 0, 1), ((RIGHT, 1), ((1, 0), 2))), (3, (((0,) * 13, 1),)), (3, (((), True),)), 3, ()):
            self.assertIs(is_shelf(value), False)
        for value in strange_values():
            self.assertIs(is_shelf(value), False)


class Merged(unittest.TestCase):

    def test_small_ones(self):
        one, other = (2, (((), 1), ((), 2))), (3, (((), 2), ((), 3)))
        self.assertEqual(merged(one, other), (3, (((), 2), ((), 3))))
        self.assertEqual(merged(other, one), (3, (((), 2), ((), 3))))
        self.assertEqual(merged((0, ()), one), one)
        self.assertEqual(merged((2, ()), one), (2, ()))
        self.assertEqual(merged(((0, 1, 0), ((LEFT, 1),)), ((0, 0, 1), ((RIGHT, 1),))), (1, ((LEFT, 1), (RIGHT, 1))))
        self.assertEqual(merged(one, one), one)

    def test_against_the_words(self):
        shelves = small_shelves()
        for one in shelves[::3]:
            for other in shelves:
                counts, dots = merged(one, other)
                self.assertEqual(counts, joined(one[0], other[0]))
                aim = [dot for dot in one[1] if dot in other[1] or not has_dot(other[0], dot)]
                aim += [dot for dot in other[1] if dot not in one[1] and not has_dot(one[0], dot)]
                self.assertEqual(dots, tuple(sorted(aim)))
                self.assertTrue(is_shelf((counts, dots)))

    def test_forty_dots_and_one_more(self):
        one, other = ((0, 30, 0), row(LEFT, 20)), ((0, 0, 30), row(RIGHT, 20))
        self.assertEqual(merged(one, other), (30, row(LEFT, 20) + row(RIGHT, 20)))
        for many in (21, 40):
            with self.assertRaises(TooMany) as caught:
                merged(one, ((0, 0, 40), row(RIGHT, many)))
            self.assertEqual(caught.exception.count, 40)
        # Of eighty dots each shelf has heard what the other one has struck.
        self.assertEqual(merged((80, row((), 40)), (80, row((), 40, 41))), (80, ()))
        self.assertEqual(merged((80, row((), 40, 41)), (40, row((), 40))), (80, row((), 40, 41)))

    def test_tuples_63_ahead_of_forty_dots(self):
        one = ((0, full_counts(5), 0), ())
        self.assertEqual(tuples_in(merged(one, ((0, 0, full_counts(5)), ()))[0]), 63)
        for other in (((0, 0, full_counts(5, (0, 1, (0, 0, 1)))), ()), ((0, 0, wide((), 8)), ())):
            with self.assertRaises(TooMany) as caught:
                merged(one, other)
            self.assertEqual(caught.exception.count, 63)
        # Sixty dots are left as well, and more than 63 tuples come first.
        one, more = (least_counts(((LEFT * 9, 30),)), row(LEFT * 9, 30)), wide((1, 1), 8)
        other = (joined(more, least_counts((((1, 0) * 6, 30),))), row((1, 0) * 6, 30))
        with self.assertRaises(TooMany) as caught:
            merged(one, other)
        self.assertEqual(caught.exception.count, 63)

    def test_wrong(self):
        good, bad = (1, ()), (0, (((), 1),))
        self.assertRaises(InvalidShelf, merged, bad, good)
        self.assertRaises(InvalidShelf, merged, good, bad)
        self.assertRaises(InvalidShelf, merged, None, None)


class BehindDeeds(unittest.TestCase):

    def test_small_ones(self):
        shelf = ((0, 1, (0, 0, 1)), ((LEFT, 1), ((1, 1), 1)))
        share = (1, (0, 1))
        self.assertEqual(put(share, shelf, ((LEFT, 1),)), ((0, 2, (0, 0, 1)), ((LEFT, 2), ((1, 1), 1))))
        self.assertEqual(struck_off(share, shelf, ()), ((0, 2, (0, 0, 1)), shelf[1]))
        self.assertEqual(struck_off(share, shelf, shelf[1]), ((0, 2, (0, 0, 1)), ()))
        self.assertEqual(put(1, (0, ()), ()), (1, (((), 1),)))
        self.assertEqual(struck_off(1, (0, ()), ()), (1, ()))

    def test_against_the_words(self):
        for shelf in small_shelves()[::2]:
            for size in range(len(shelf[1]) + 1):
                for dots in combinations(shelf[1], size):
                    for share in (1, (1, 0), (0, (1, 0)), ((0, 1), 1)):
                        counts = raised(share, shelf[0])
                        left = [dot for dot in shelf[1] if dot not in dots]
                        self.assertEqual(struck_off(share, shelf, dots), (counts, tuple(left)))
                        left = tuple(sorted(left + [dot_behind(share, shelf[0])]))
                        self.assertEqual(put(share, shelf, dots), (counts, left))
                        self.assertTrue(is_shelf((counts, left)))

    def test_forty_dots(self):
        shelf = (40, row((), 40))
        with self.assertRaises(TooMany) as caught:
            put(1, shelf, ())
        self.assertEqual(caught.exception.count, 40)
        self.assertEqual(put(1, shelf, (((), 7),)), (41, tuple(dot for dot in row((), 41) if dot[1] != 7)))
        self.assertEqual(put(1, shelf, shelf[1]), (41, (((), 41),)))
        self.assertEqual(struck_off(1, shelf, ()), (41, shelf[1]))
        self.assertEqual(put(1, (40, row((), 39)), ()), (41, row((), 39) + (((), 41),)))

    def test_errors_as_of_raised(self):
        for call in (put, struck_off):
            self.assertRaises(Refused, call, 0, (40, row((), 40)), ())
            with self.assertRaises(TooMany) as caught:
                call(chain_share(7), (full_counts(6), ()), ())
            self.assertEqual(caught.exception.count, 63)
            self.assertEqual(tuples_in(call(chain_share(6), (full_counts(6), ()), ())[0]), 63)

    def test_tuples_63_ahead_of_forty_dots(self):
        counts = full_counts(6, (0, 40, 0))
        shelf = (counts, row((1,) * 5 + (0,), 40))
        self.assertTrue(is_shelf(shelf))
        with self.assertRaises(TooMany) as caught:
            put(chain_share(7), shelf, ())
        self.assertEqual(caught.exception.count, 63)
        with self.assertRaises(TooMany) as caught:
            put(chain_share(6), shelf, ())
        self.assertEqual(caught.exception.count, 40)

    def test_dots_that_are_none_of_the_shelf(self):
        shelf = (3, (((), 1), ((), 3)))
        for call in (put, struck_off):
            for dots in ((((), 2),), (((), 1), ((), 2)), ((LEFT, 1),), (((), 3), ((), 1)), (((), 1), ((), 1)),
                         [((), 1)], ((), 1), (((), 0),), None, 0, row((), 41), ((),)):
                self.assertRaises(InvalidDots, call, 1, shelf, dots)
                self.assertRaises(InvalidDots, call, 0, shelf, dots)

    def test_sequence_of_errors(self):
        for call in (put, struck_off):
            self.assertRaises(InvalidShare, call, None, None, None)
            self.assertRaises(InvalidShelf, call, 0, (0, (((), 1),)), None)
            self.assertRaises(InvalidShelf, call, 0, (41, row((), 41)), ())


if __name__ == "__main__":
    unittest.main()
