"""[22]: crowns, deeds each of which knows all of a lot but one."""

import unittest
from itertools import permutations

from heirstamps.chains import crown_history, greatest_crown, is_crown
from heirstamps.errors import InvalidCount, InvalidHistory, TooMany
from heirstamps.histories import deeds, is_history, marks
from tests.plain import crown_fits, greatest_crown_of, history_of, orders
from tests.support import deep, some_histories, strange_values

FORK = ("fork", 0)
THREE = crown_history(3)
ROW = {many: (("deed", 0),) * many for many in (15, 16, 17, 60)}


class IsCrown(unittest.TestCase):

    def test_three(self):
        for value, answer in ((((0, 1, 2), (3, 4, 5)), True), (((2, 0, 1), (5, 3, 4)), True), (((0, 1), (3, 4)), True),
                              (((1, 2), (4, 5)), True), (((0, 1), (4, 3)), False), (((0, 1, 2), (3, 5, 4)), False),
                              (((3, 4, 5), (0, 1, 2)), False), (((0, 1, 2), (3, 4)), False), (((0, 1), (3, 4, 5)), False),
                              (((0,), (3,)), False), (((), ()), False), (((0, 0), (3, 3)), False),
                              (((0, 1, 1), (3, 4, 4)), False), (((0, 1), (0, 1)), False), (((0, 1), (1, 0)), False),
                              (((0, 3), (3, 0)), False), (((0, 1, 2), (3, 4, 6)), False), (((0, 1), (3, -2)), False),
                              (((0, 1, 2),), False), (((0, 1, 2), (3, 4, 5), ()), False), ([(0, 1), (3, 4)], False),
                              (([0, 1], (3, 4)), False), (((0, 1), [3, 4]), False), (((False, 1), (3, 4)), False),
                              (((0, True), (3, 4)), False), (((0, "1"), (3, 4)), False), (((0, None), (3, 4)), False),
                              (((0, (1,)), (3, 4)), False), (((0, [1]), (3, 4)), False), ((0, 1, 3, 4), False),
                              ((0, 3), False), (((0, 10 ** 89), (3, 4)), False)):
            with self.subTest(value):
                self.assertIs(is_crown(THREE, value), answer)

    def test_all_tuples_of_two_and_three(self):
        known = [(), (), (), (1, 2), (0, 2), (0, 1)]
        for size in (1, 2, 3):
            for members in permutations(range(6), 2 * size):
                first, second = members[:size], members[size:]
                self.assertIs(is_crown(THREE, (first, second)), crown_fits(known, first, second))

    def test_no_deed_twice(self):
        # 0 and 1 are apart: each one knows neither itself nor the other one.
        history = (FORK, ("deed", 0), ("deed", 1))
        for value in (((0, 1), (1, 0)), ((0, 1), (0, 1)), ((0, 0), (1, 1))):
            self.assertIs(is_crown(history, value), False)

    def test_six(self):
        self.assertIs(is_crown(crown_history(6), (tuple(range(6)), tuple(range(6, 12)))), True)
        self.assertIs(is_crown(crown_history(6), (tuple(range(5)), tuple(range(6, 11)))), True)
        self.assertIs(is_crown(crown_history(6), (tuple(range(6)), tuple(range(11, 5, -1)))), False)

    def test_other_values(self):
        for value in strange_values() + [deep(40), ((0,) * 1400, (3,) * 1400), ((0, 1), (3, 4), (0, 1)), ((), ())]:
            with self.subTest(value):
                self.assertIs(is_crown(THREE, value), False)
                self.assertIs(is_crown((), value), False)


class GreatestCrown(unittest.TestCase):

    def test_none(self):
        for history in ((), (FORK,), (("deed", 0),), ROW[16], (FORK, ("deed", 0), ("deed", 1)),
                        (FORK, ("deed", 0), ("deed", 1), ("hear", 0, 1), ("deed", 0))):
            self.assertIsNone(greatest_crown(history))

    def test_two(self):
        # Two rows of two that know nothing of one another.
        history = (FORK, ("deed", 0), ("deed", 1), ("deed", 0), ("deed", 1))
        told = greatest_crown(history)
        self.assertEqual(sorted(zip(*told)), [(0, 3), (1, 2)])
        self.assertIs(is_crown(history, told), True)

    def test_all_orders_of_five_deeds_and_some_of_six(self):
        sizes = set()
        some = orders(6)[::29] + [[(), (), (), (1, 2), (0, 2), (0, 1)]]
        for known in [known for count in range(6) for known in orders(count)] + some:
            history = history_of(known)
            told = greatest_crown(history)
            size = greatest_crown_of(known)
            sizes.add(size)
            if size == 0:
                self.assertIsNone(told)
            else:
                self.assertIs(type(told), tuple)
                self.assertEqual([len(part) for part in told], [size, size])
                self.assertTrue(crown_fits(known, *told))
                self.assertIs(is_crown(history, told), True)
                self.assertEqual(greatest_crown(tuple(list(history))), told)
        self.assertEqual(sizes, {0, 2, 3})

    def test_crowns_within_longer_histories(self):
        for count in range(2, 7):
            history = crown_history(count) + (("deed", 0), ("deed", 1), ("hear", 0, 1), ("deed", 0))
            told = greatest_crown(history)
            self.assertEqual(len(told[0]), count)
            self.assertIs(is_crown(history, told), True)

    def test_histories(self):
        sizes = set()
        for history, model in some_histories():
            if len(model.doers) <= 16:
                told = greatest_crown(history)
                self.assertTrue(told is None or is_crown(history, told))
                sizes.add(0 if told is None else len(told[0]))
        self.assertTrue({0, 2} <= sizes)

    def test_sixteen_deeds_and_seventeen(self):
        self.assertIsNone(greatest_crown(ROW[15]))
        self.assertIsNone(greatest_crown(ROW[16]))
        forks = (FORK,) * 7
        done = forks + tuple(("deed", mark) for mark in range(8)) * 2
        self.assertEqual(len(greatest_crown(done)[0]), 2)
        for history in (ROW[17], ROW[60], done + (("deed", 0),)):
            with self.assertRaises(TooMany) as caught:
                greatest_crown(history)
            self.assertEqual(caught.exception.count, 16)

    def test_the_history_first(self):
        for value in (None, [], (None,), (("deed", 0),) * 61):
            self.assertRaises(InvalidHistory, greatest_crown, value)
            self.assertRaises(InvalidHistory, is_crown, value, None)


class CrownHistory(unittest.TestCase):

    def test_two(self):
        self.assertEqual(crown_history(2), (
            FORK, ("deed", 0), ("deed", 1), ("fork", 1), ("deed", 2), ("lose", 2), ("fork", 0), ("deed", 3), ("lose", 3)))

    def test_three(self):
        self.assertEqual(THREE, (
            FORK, FORK, ("deed", 0), ("deed", 1), ("deed", 2),
            ("fork", 1), ("hear", 3, 2), ("deed", 3), ("lose", 3),
            ("fork", 2), ("hear", 4, 0), ("deed", 4), ("lose", 4),
            ("fork", 0), ("hear", 5, 1), ("deed", 5), ("lose", 5)))

    def test_four(self):
        self.assertEqual(crown_history(4)[7:12], (
            ("fork", 1), ("hear", 4, 2), ("hear", 4, 3), ("deed", 4), ("lose", 4)))
        self.assertEqual(crown_history(4)[-5:], (
            ("fork", 0), ("hear", 7, 1), ("hear", 7, 2), ("deed", 7), ("lose", 7)))

    def test_lengths(self):
        self.assertEqual([len(crown_history(count)) for count in range(2, 7)], [9, 17, 27, 39, 53])

    def test_they_are_histories(self):
        for count in range(2, 7):
            history = crown_history(count)
            self.assertIs(type(history), tuple)
            self.assertIs(is_history(history), True)
            self.assertEqual(marks(history), tuple(range(count)))
            self.assertEqual(deeds(history), list(range(2 * count)))

    def test_counts_that_are_none(self):
        for value in [1, 7, 0, -1, -2, 8, 10 ** 89, True, False, None, "3", "", (3,), [3], (), deep(40)] + strange_values():
            with self.subTest(value):
                self.assertRaises(InvalidCount, crown_history, value)


if __name__ == "__main__":
    unittest.main()
