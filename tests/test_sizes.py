"""[29], [30]: sizes, and the row of all shares of a size."""

import unittest
from itertools import product

from heirstamps.counts import is_stamp
from heirstamps.errors import InvalidCount, InvalidCounts, InvalidHistory, InvalidShare, InvalidStamp, TooMany
from heirstamps.shares import is_share, owned_paths, united
from heirstamps.sizes import (
    balanced, counts_size, least_total, nth_share, share_rank, share_size, share_total, sizes, split_paths, stamp_size,
)
from tests.support import (
    Chance, Model, all_counts, all_shares, chain_counts, chain_share, counts_of, full_counts, full_share, share_of,
    some_histories, strange_values, tuples_in,
)

END = (("fork", 0), ("fork", 1), ("deed", 2), ("hear", 1, 2), ("deed", 2), ("hear", 0, 2), ("lose", 2))


def tuple_paths(tree):
    """The paths at which a share has tuples."""
    if not isinstance(tree, tuple):
        return []
    return [()] + [(half,) + path for half in (0, 1) for path in tuple_paths(tree[half])]


def listed(size):
    """All shares of this size, in the sequence of [30]."""
    if size == 0:
        return [0, 1]
    found = []
    for left in range(size):
        for one in listed(left):
            for other in listed(size - 1 - left):
                if (one, other) not in ((0, 0), (1, 1)):
                    found.append((one, other))
    return found


def depth(tree):
    """How deep the tuples of a share are nested."""
    return 1 + max(map(depth, tree)) if isinstance(tree, tuple) else 0


class Sizes(unittest.TestCase):

    def test_small_ones(self):
        self.assertEqual([share_size(share) for share in (0, 1, (1, 0), (1, (0, 1)), ((1, 0), (0, 1)))],
                         [0, 0, 1, 2, 3])
        self.assertEqual([counts_size(counts) for counts in (0, 7, (0, 1, 0), (0, 0, (0, 0, 2)))], [0, 0, 1, 2])
        self.assertEqual([stamp_size(stamp) for stamp in ((1, 0), ((1, 0), 5), ((1, 0), (0, 0, 1)), (1, (0, 1, 0)))],
                         [0, 1, 2, 1])
        self.assertEqual(share_size(full_share(6)), 63)
        self.assertEqual(counts_size(full_counts(6)), 63)
        self.assertEqual(stamp_size((full_share(6), full_counts(6))), 126)
        self.assertEqual(stamp_size((chain_share(12), chain_counts(12))), 24)

    def test_by_counting(self):
        for share in all_shares(3):
            self.assertEqual(share_size(share), tuples_in(share))
        for counts in all_counts(2, 2):
            self.assertEqual(counts_size(counts), tuples_in(counts))

    def test_wrong(self):
        for value in strange_values() + [(), full_share(7), full_counts(7), chain_share(13), chain_counts(13)]:
            self.assertRaises(InvalidShare, share_size, value)
            self.assertRaises(InvalidCounts, counts_size, value)
            if not is_stamp(value):
                self.assertRaises(InvalidStamp, stamp_size, value)
        for value in ((1,), (1, 0, 0), [1, 0], ((1, 1), 0), (0, (0, 0, 0)), (2, 0), (full_share(7), 0), (1, True)):
            self.assertRaises(InvalidStamp, stamp_size, value)


class Histories(unittest.TestCase):

    def test_small_ones(self):
        self.assertEqual(sizes(()), [0])
        self.assertEqual(split_paths(()), [])
        self.assertEqual(sizes(END), [0, 2, 5, 7, 9, 9, 11, 7])
        self.assertEqual(split_paths(END), [(), (1,)])
        self.assertEqual(split_paths((("fork", 0), ("join", 0, 1))), [()])
        self.assertEqual(split_paths((("fork", 0),) * 4), [(), (0,), (0, 0), (0, 0, 0)])
        self.assertEqual(sizes((("deed", 0),) * 60), [0] * 61)

    def test_against_the_model(self):
        for history, _ in some_histories()[::5]:
            model = Model(7)
            totals, paths = [0], set()
            for step in history:
                model.do(step)
                shares = [share_of(row) for row in model.shares.values()]
                for share in shares:
                    paths |= set(tuple_paths(share))
                totals.append(sum(map(tuples_in, shares))
                              + sum(tuples_in(counts_of(row)) for row in model.counts.values()))
            self.assertEqual(sizes(history), totals)
            self.assertEqual(split_paths(history), sorted(paths))

    def test_wrong(self):
        for call in (sizes, split_paths):
            for value, index in ((None, 0), ([], 0), ((("deed", 1),), 0), ((("deed", 0), ("lose", 0)), 1)):
                with self.assertRaises(InvalidHistory) as caught:
                    call(value)
                self.assertEqual(caught.exception.index, index)


class Balanced(unittest.TestCase):

    def test_small_ones(self):
        self.assertEqual(balanced(1), [1])
        self.assertEqual(balanced(2), [(1, 0), (0, 1)])
        self.assertEqual(balanced(3), [((1, 0), 0), ((0, 1), 0), (0, 1)])
        self.assertEqual(balanced(4), [((1, 0), 0), ((0, 1), 0), (0, (1, 0)), (0, (0, 1))])
        self.assertEqual([least_total(count) for count in (1, 2, 3, 4, 5, 64)], [0, 2, 5, 8, 12, 384])

    def test_all_counts(self):
        for count in range(1, 65):
            told = balanced(count)
            self.assertEqual(len(told), count)
            paths = [owned_paths(share) for share in told]
            self.assertTrue(all(len(row) == 1 for row in paths))
            paths = [row[0] for row in paths]
            self.assertEqual(paths, sorted(paths))
            lengths = [len(path) for path in paths]
            self.assertEqual(lengths, sorted(lengths, reverse=True))
            self.assertLessEqual(lengths[0] - lengths[-1], 1)
            whole = 0
            for share in told:
                whole = united(whole, share)
            self.assertEqual(whole, 1)
            self.assertEqual(sum(map(share_size, told)), least_total(count))

    def test_sixty_four_and_one_more(self):
        for call in (least_total, balanced):
            for count in (65, 66, 128, 10 ** 89):
                with self.assertRaises(TooMany) as caught:
                    call(count)
                self.assertEqual(caught.exception.count, 64)
            for count in (0, -1, True, None, "1", [1], (1,), -10 ** 89):
                self.assertRaises(InvalidCount, call, count)
        self.assertEqual({share_size(share) for share in balanced(64)}, {6})


class Rows(unittest.TestCase):

    def test_all_of_few_tuples(self):
        for size in range(5):
            row = listed(size)
            self.assertEqual(share_total(size), len(row))
            self.assertEqual([nth_share(size, index) for index in range(len(row))], row)
            self.assertEqual([share_rank(share) for share in row], list(range(len(row))))
            self.assertIsNone(nth_share(size, len(row)))

    def test_small_ones(self):
        self.assertEqual([share_total(size) for size in range(6)], [2, 2, 8, 36, 176, 912])
        self.assertEqual([nth_share(0, 0), nth_share(0, 1), nth_share(0, 2)], [0, 1, None])
        self.assertEqual([nth_share(1, 0), nth_share(1, 1), nth_share(1, 2)], [(0, 1), (1, 0), None])
        self.assertEqual(nth_share(2, 0), (0, (0, 1)))
        self.assertEqual(share_rank((1, (0, 1))), 2)
        self.assertEqual(share_rank(0), 0)
        self.assertEqual(share_rank(1), 1)

    def test_totals_by_sums_of_products(self):
        loose = [2]
        for size in range(1, 14):
            loose.append(sum(loose[left] * loose[size - 1 - left] for left in range(size)) - 2 * (size == 1))
        for size in range(13):
            self.assertEqual(share_total(size), loose[size])
        # Thirteen tuples are nested too deep if each one is straight within another one.
        self.assertEqual(share_total(13), loose[13] - 2 * 4 ** 12)

    def test_depths(self):
        def within(size, deep):
            if size == 0:
                return 2
            if deep == 0:
                return 0
            total = sum(within(left, deep - 1) * within(size - 1 - left, deep - 1) for left in range(size))
            return total - 2 * (size == 1)
        self.assertEqual(share_total(9), within(9, 12))
        # Of more than some tuples ever more are nested too deep, but some are left of all 63.
        self.assertGreater(share_total(63), 10 ** 40)

    def test_no_shares_above_63(self):
        for size in (64, 65, 4095, 10 ** 89):
            self.assertEqual(share_total(size), 0)
            self.assertIsNone(nth_share(size, 0))

    def test_first_last_and_beyond(self):
        for size in list(range(1, 16)) + [20, 31, 40, 62, 63]:
            total = share_total(size)
            for index in (0, 1, total // 3, total // 2, total - 2, total - 1):
                share = nth_share(size, index)
                self.assertIs(is_share(share), True)
                self.assertEqual(tuples_in(share), size)
                self.assertEqual(share_rank(share), index)
            self.assertIsNone(nth_share(size, total))
            self.assertIsNone(nth_share(size, 10 ** 89))

    def test_twelve_deep(self):
        for share in (chain_share(12), chain_share(12, (1,)), chain_share(12, (0, 1), 1)):
            index = share_rank(share)
            self.assertEqual(nth_share(12, index), share)
        chance = Chance(3)
        seen = set()
        for _ in range(40):
            size = 12 + chance.below(40)
            index = chance.below(2 ** 31) * 2 ** 40 % share_total(size)
            share = nth_share(size, index)
            seen.add(depth(share))
            self.assertEqual(share_rank(share), index)
        self.assertEqual(max(seen), 12)

    def test_neighbours_stand_in_sequence(self):
        def key(share):
            if not isinstance(share, tuple):
                return (0, share)
            return (tuples_in(share[0]), key(share[0]), key(share[1]))
        for size in (5, 6, 7):
            shares = [nth_share(size, index) for index in range(0, share_total(size), 97)]
            self.assertEqual([key(share) for share in shares], sorted(key(share) for share in shares))

    def test_wrong(self):
        for value in (-1, True, None, "1", [1], (1,), -10 ** 89):
            self.assertRaises(InvalidCount, share_total, value)
            self.assertRaises(InvalidCount, nth_share, value, 0)
            self.assertRaises(InvalidCount, nth_share, 3, value)
            self.assertRaises(InvalidCount, nth_share, 64, value)
        for value in strange_values() + [2, full_share(7), chain_share(13)]:
            self.assertRaises(InvalidShare, share_rank, value)


class H1(unittest.TestCase):

    def test_counts_have_tuples_where_shares_were_halved(self):
        for history, model in some_histories()[::3]:
            paths = split_paths(history)
            self.assertLessEqual(len(paths), len([1 for step in history if step[0] == "fork"]))
            for row in model.counts.values():
                tree = counts_of(row)
                self.assertLessEqual(set(counts_paths(tree)), set(paths))


def counts_paths(tree):
    """The paths at which counts have tuples."""
    if not isinstance(tree, tuple):
        return []
    return [()] + [(half,) + path for half in (0, 1) for path in counts_paths(tree[1 + half])]


class H2(unittest.TestCase):

    def test_paths(self):
        fewest = [None, 0]
        for count in range(2, 65):
            fewest.append(min(fewest[one] + fewest[count - one] for one in range(1, count)) + count)
            e = count.bit_length() - 1
            self.assertEqual(fewest[count], count * e + 2 * (count - 2 ** e))
        self.assertEqual([least_total(count) for count in range(1, 65)], fewest[1:])

    def test_shares(self):
        for count, k in ((1, 2), (2, 2), (3, 2), (4, 2), (2, 3), (3, 3)):
            sums = []
            for owners in product(range(count), repeat=2 ** k):
                if len(set(owners)) == count:
                    shares = [share_of([int(owner == one) for owner in owners]) for one in range(count)]
                    sums.append(sum(map(tuples_in, shares)))
            self.assertEqual(min(sums), least_total(count))

    def test_copies(self):
        for history, model in some_histories():
            if not any(step[0] == "lose" for step in history):
                greatest = max(tuples_in(share_of(row)) for row in model.shares.values())
                self.assertGreaterEqual(2 ** greatest, len(model.shares))


class H3(unittest.TestCase):

    def test_size_of_united(self):
        chance = Chance(8)
        for _ in range(300):
            owners = [chance.below(3) for _ in range(16)]
            one, other = (share_of([int(owner == mine) for owner in owners]) for mine in (0, 1))
            self.assertLessEqual(share_size(united(one, other)), share_size(one) + share_size(other))

    def test_there_and_back(self):
        for share in all_shares(3):
            self.assertEqual(nth_share(share_size(share), share_rank(share)), share)


if __name__ == "__main__":
    unittest.main()
