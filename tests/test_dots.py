"""[24]: dots."""

import unittest
from itertools import product

from heirstamps.counts import is_counts, is_within, raised, worth_at
from heirstamps.dots import deed_by, deeds_told, dot_behind, dot_of, has_dot, is_dot, least_counts
from heirstamps.errors import (
    InvalidCounts, InvalidDeed, InvalidDot, InvalidDots, InvalidHistory, InvalidShare, Refused, TooMany,
)
from tests.support import (
    Model, all_counts, all_shares, chain_counts, chain_share, counts_of, full_counts, part_of, some_histories,
    strange_values, tuples_in, worths,
)

TALE = (("fork", 0), ("deed", 0), ("fork", 1), ("deed", 2), ("hear", 1, 0), ("deed", 1), ("join", 0, 2))


def all_paths(k):
    """All paths of at most k halves, as Python orders tuples."""
    return sorted(path for length in range(k + 1) for path in product((0, 1), repeat=length))


def dot_of_rows(ahead, behind, k):
    """The dot of a deed that makes these worths of those, from the words of [24]."""
    risen = []
    for path in all_paths(k):
        before, after = part_of(ahead, path), part_of(behind, path)
        if len(set(after)) == 1 and all(new > old for old, new in zip(before, after)):
            risen.append(path)
    shortest = [path for path in risen if not any(path[:k] in risen for k in range(len(path)))]
    return (shortest[0], part_of(behind, shortest[0])[0])


def dots_of_model(history, k):
    """The dots of all deeds of a history, by cells."""
    model = Model(k)
    dots = []
    for step in history:
        ahead = model.counts[step[1]]
        model.do(step)
        if step[0] == "deed":
            dots.append(dot_of_rows(ahead, model.counts[step[1]], k))
    return dots


def wide_dots(more):
    """Ascending dots, seven of them, that need 61 tuples and so many more."""
    paths = [(0, 0, 0) + (0,) * 9, (0, 0, 1) + (0,) * 9, (0, 1, 0) + (0,) * 9, (0, 1, 1) + (0,) * 9,
             (1, 0) + (0,) * 10, (1, 1, 0) + (0,) * more, (1, 1, 1) + (1,) * 9]
    return tuple((path, 1) for path in paths)


class IsDot(unittest.TestCase):

    def test_dots(self):
        for value in (((), 1), ((0,), 1), ((0, 1), 7), ((1,) * 12, 10 ** 89), ((0,) * 12, 1), ((1, 0, 1), 3)):
            self.assertIs(is_dot(value), True)

    def test_others(self):
        for value in (((), 0), ((), -1), ((0,) * 13, 1), ((2,), 1), ((True,), 1), ((0,), True), ((0,), "1"), (0, 1),
                      [(0,), 1], ([0], 1), ((0,), 1, 1), ((0,),), (1, (0,)), ((), None), ((), (1,)), (), 1):
            self.assertIs(is_dot(value), False)
        for value in strange_values():
            self.assertIs(is_dot(value), value == ((0, 0), 1))


class HasDot(unittest.TestCase):

    def test_by_worths(self):
        for counts in all_counts(2, 2)[::4]:
            row = worths(counts, 3)
            for path in all_paths(3):
                for worth in (1, 2, 3):
                    self.assertIs(has_dot(counts, (path, worth)), min(part_of(row, path)) >= worth)

    def test_edges(self):
        self.assertIs(has_dot(0, ((), 1)), False)
        self.assertIs(has_dot(1, ((1,) * 12, 1)), True)
        self.assertIs(has_dot(chain_counts(12), ((1,) * 12, 1)), True)
        self.assertIs(has_dot(chain_counts(12), ((1,) * 11, 1)), False)
        self.assertIs(has_dot((0, 1, 0), ((0, 1), 1)), True)
        self.assertIs(has_dot((3, 0, 2), ((1,), 5)), True)
        self.assertIs(has_dot((3, 0, 2), ((1,), 6)), False)
        self.assertIs(has_dot((3, 0, 2), ((), 3)), True)

    def test_wrong(self):
        self.assertRaises(InvalidCounts, has_dot, None, None)
        self.assertRaises(InvalidDot, has_dot, 1, ((), 0))
        self.assertRaises(InvalidDot, has_dot, 1, ((0,) * 13, 1))


class DotBehind(unittest.TestCase):

    def test_all_small_ones(self):
        for share in all_shares(2):
            if share == 0:
                continue
            for counts in all_counts(2, 2):
                row = worths(counts, 2)
                aim = dot_of_rows(row, worths(raised(share, counts), 2), 2)
                self.assertEqual(dot_behind(share, counts), aim)

    def test_small_ones(self):
        self.assertEqual(dot_behind(1, 0), ((), 1))
        self.assertEqual(dot_behind((1, 0), 2), ((0,), 3))
        # The counts come to be 3 everywhere, and only the left half is raised.
        self.assertEqual(dot_behind((1, 0), (0, 0, 3)), ((0,), 3))
        self.assertEqual(dot_behind(1, (0, 0, 3)), ((0,), 3))
        self.assertEqual(dot_behind(1, (0, 3, 0)), ((1,), 3))
        # Both halves are raised to the same worth from unlike ones.
        self.assertEqual(dot_behind(1, (0, (0, 0, 1), (1, 1, 0))), ((0,), 2))
        self.assertEqual(dot_behind((1, (0, 1)), (0, 1, (0, 0, 1))), ((0,), 2))
        self.assertEqual(dot_behind(chain_share(12), 0), ((0,) * 12, 1))
        self.assertEqual(dot_behind(chain_share(12, (1,)), chain_counts(12, 4)), ((1,) * 12, 5))

    def test_errors_as_of_raised(self):
        self.assertRaises(Refused, dot_behind, 0, 5)
        self.assertRaises(InvalidCounts, dot_behind, 0, None)
        self.assertRaises(InvalidShare, dot_behind, None, None)
        for share, counts in ((chain_share(7), full_counts(6)), (chain_share(12), full_counts(6))):
            with self.assertRaises(TooMany) as caught:
                dot_behind(share, counts)
            self.assertEqual(caught.exception.count, 63)
        self.assertEqual(dot_behind(chain_share(6), full_counts(6)), ((0,) * 6, 2))


class LeastCounts(unittest.TestCase):

    def test_small_ones(self):
        self.assertEqual(least_counts(()), 0)
        self.assertEqual(least_counts((((), 4),)), 4)
        self.assertEqual(least_counts((((0,), 1), ((1, 1), 1))), (0, 1, (0, 0, 1)))
        self.assertEqual(least_counts((((), 1), ((), 2), ((0,), 2), ((1, 0), 5))), (2, 0, (0, 3, 0)))
        self.assertEqual(least_counts((((0,), 3), ((1,), 3))), 3)
        self.assertEqual(least_counts((((1,) * 12, 1),)), chain_counts(12))

    def test_by_worths(self):
        dots = [(path, worth) for path in all_paths(2) for worth in (1, 2)]
        for lot in product((0, 1), repeat=7):
            taken = sorted(dots[2 * at + (at + sum(lot)) % 2] for at in range(7) if lot[at])
            row = [0] * 4
            for path, worth in taken:
                for at, cell in enumerate(product((0, 1), repeat=2)):
                    if cell[:len(path)] == path:
                        row[at] = max(row[at], worth)
            told = least_counts(tuple(taken))
            self.assertEqual(told, counts_of(row))
            self.assertTrue(all(has_dot(told, dot) for dot in taken))
            for counts in all_counts(2, 2):
                self.assertIs(all(has_dot(counts, dot) for dot in taken), is_within(told, counts))

    def test_tuples_63_and_64(self):
        told = least_counts(wide_dots(2))
        self.assertEqual(tuples_in(told), 63)
        self.assertTrue(is_counts(told))
        for more in (3, 9):
            with self.assertRaises(TooMany) as caught:
                least_counts(wide_dots(more))
            self.assertEqual(caught.exception.count, 63)

    def test_forty_dots_and_one_more(self):
        dots = tuple(((), worth) for worth in range(1, 41))
        self.assertEqual(least_counts(dots), 40)
        self.assertRaises(InvalidDots, least_counts, dots + (((), 41),))

    def test_wrong(self):
        for value in (None, 0, [], [((), 1)], ((), 1), (((), 2), ((), 1)), (((), 1), ((), 1)), (((1,), 1), ((0,), 1)),
                      (((0,), 1), ((), 1)), (((), 0),), (((0,) * 13, 1),), (((), 1), None), (((), True),), ((),)):
            self.assertRaises(InvalidDots, least_counts, value)


class DeedsByDots(unittest.TestCase):

    def test_against_a_plain_reckoning(self):
        for history, model in some_histories()[::3]:
            if len(history) > 40:
                continue
            dots = dots_of_model(history, 7)
            self.assertEqual([dot_of(history, deed) for deed in range(len(dots))], dots)
            self.assertEqual([deed_by(history, dot) for dot in dots], list(range(len(dots))))
            for mark in model.counts:
                counts = counts_of(model.counts[mark])
                aim = [deed for deed, (path, worth) in enumerate(dots) if worth_at(counts, path)[0] >= worth]
                self.assertEqual(deeds_told(history, counts), tuple(aim))

    def test_small_ones(self):
        self.assertEqual([dot_of(TALE, deed) for deed in range(3)], [((0,), 1), ((1, 1), 1), ((1, 0), 1)])
        self.assertEqual(deed_by(TALE, ((1, 0), 1)), 2)
        self.assertEqual(deeds_told(TALE, 0), ())
        self.assertEqual(deeds_told(TALE, (0, 0, 1)), (1, 2))
        self.assertEqual(deeds_told(TALE, 10 ** 89), (0, 1, 2))
        self.assertEqual(deeds_told((), 3), ())
        self.assertEqual(dot_of((("deed", 0),) * 60, 59), ((), 60))
        self.assertEqual(deed_by((("deed", 0),) * 60, ((), 60)), 59)

    def test_a_dot_of_no_deed(self):
        for dot in (((0,), 2), ((), 1), ((1,), 1), ((1, 1), 2), ((0,) * 12, 10 ** 89)):
            self.assertIsNone(deed_by(TALE, dot))
        self.assertIsNone(deed_by((), ((), 1)))

    def test_wrong(self):
        for deed in (3, -1, None, True, "0", (0,), 10 ** 89):
            self.assertRaises(InvalidDeed, dot_of, TALE, deed)
        self.assertRaises(InvalidDeed, dot_of, (), 0)
        self.assertRaises(InvalidHistory, dot_of, None, None)
        self.assertRaises(InvalidHistory, deed_by, None, None)
        self.assertRaises(InvalidDot, deed_by, TALE, ((), 0))
        self.assertRaises(InvalidHistory, deeds_told, None, None)
        self.assertRaises(InvalidCounts, deeds_told, TALE, (0, 0, 0))
        self.assertRaises(InvalidCounts, deeds_told, (), None)


if __name__ == "__main__":
    unittest.main()
