"""[19], [20]: which deed knows which, and rows of deeds."""

import unittest

from heirstamps.chains import (
    are_apart, deeds_by, fewest_rows, is_row_sharing, knows, levels, longest_row, row_counts, widest, width,
)
from heirstamps.errors import InvalidDeed, InvalidHistory, InvalidMark, InvalidNumbers, InvalidRows
from heirstamps.histories import heard
from tests.plain import antichains_of, apart, history_of, orders, row_sharings_of, rows_of
from tests.support import deep, some_histories, strange_values

FORK = ("fork", 0)
TALE = (FORK, ("deed", 0), ("fork", 1), ("deed", 2), ("hear", 1, 0), ("deed", 1), ("join", 0, 2))
ROWS = ((1,), (0, 2))
BY_ONE = (("deed", 0),) * 60
# Nineteen deeds no one of which knows another one: each copy goes when it has done its deed.
ALL_APART = (FORK,) + tuple(
    step for mark in range(2, 21) for step in (("fork", mark % 2), ("deed", mark), ("lose", mark)))
WRONG_DEEDS = [3, 4, -1, 10 ** 89, True, False, None, "0", "", (0,), [0], (), deep(40), "a" * 20000]


def known_of(model):
    """For each deed of a model those that it knows."""
    return [lot[:lot.index(deed)] + lot[lot.index(deed) + 1:] for deed, lot in enumerate(model.known)]


def all_small_orders():
    """All orders of at most five deeds, and some of six."""
    return [known for count in range(6) for known in orders(count)] + orders(6)[::60]


class Knows(unittest.TestCase):

    def test_tale(self):
        self.assertEqual([(a, b) for a in range(3) for b in range(3) if knows(TALE, a, b)], [(2, 0)])
        self.assertEqual([(a, b) for a in range(3) for b in range(3) if are_apart(TALE, a, b)],
                         [(0, 1), (1, 0), (1, 2), (2, 1)])

    def test_what_is_heard_later_does_not_count(self):
        steps = (FORK, ("deed", 0), ("deed", 1), ("hear", 1, 0), ("hear", 0, 1))
        self.assertIs(knows(steps, 1, 0), False)
        self.assertIs(are_apart(steps, 0, 1), True)
        self.assertIs(knows(steps + (("deed", 0),), 2, 1), True)

    def test_against_the_model(self):
        for history, model in some_histories()[::12]:
            known = known_of(model)
            for deed in range(len(known)):
                for other in range(len(known)):
                    self.assertIs(knows(history, deed, other), other in known[deed])
                    self.assertIs(are_apart(history, deed, other), apart(known, deed, other))

    def test_what_is_no_deed(self):
        for value in WRONG_DEEDS + strange_values():
            with self.subTest(value):
                for call in (knows, are_apart):
                    self.assertRaises(InvalidDeed, call, TALE, value, 0)
                    self.assertRaises(InvalidDeed, call, TALE, 0, value)
                    self.assertRaises(InvalidDeed, call, TALE, value, value)
        for call in (knows, are_apart):
            self.assertRaises(InvalidDeed, call, (), 0, 0)
            self.assertRaises(InvalidDeed, call, (FORK,), 0, 1)
            self.assertRaises(InvalidHistory, call, (None,), None, None)


class Levels(unittest.TestCase):

    def test_histories(self):
        for history, told in (((), []), ((FORK,), []), (TALE, [(0, 1), (2,)]), ((("deed", 0),), [(0,)]),
                              (BY_ONE, [(deed,) for deed in range(60)]), (ALL_APART, [tuple(range(19))])):
            with self.subTest(history):
                self.assertEqual(levels(history), told)
                self.assertIs(type(levels(history)), list)

    def test_all_small_orders(self):
        for known in all_small_orders():
            rows = rows_of(known)
            longest = [max(len(row) for row in rows if row[-1] == deed) for deed in range(len(known))]
            told = [tuple(deed for deed, length in enumerate(longest) if length == k)
                    for k in range(1, max(longest, default=0) + 1)]
            self.assertEqual(levels(history_of(known)), told)

    def test_the_list_is_new(self):
        told = levels(TALE)
        told.append("more")
        self.assertEqual(levels(TALE), [(0, 1), (2,)])


class Width(unittest.TestCase):

    def test_histories(self):
        for history, told in (((), 0), ((FORK,), 0), ((("deed", 0),), 1), (TALE, 2), (BY_ONE, 1), (ALL_APART, 19)):
            with self.subTest(history):
                self.assertEqual(width(history), told)
                self.assertEqual(len(widest(history)), told)
        self.assertEqual(widest(()), ())
        self.assertEqual(widest(ALL_APART), tuple(range(19)))

    def test_all_small_orders(self):
        for known in all_small_orders():
            lots = antichains_of(known)
            history = history_of(known)
            self.assertEqual(width(history), max(len(lot) for lot in lots))
            self.assertIn(widest(history), lots)
            self.assertEqual(len(widest(history)), width(history))

    def test_longer_histories(self):
        for history, model in some_histories():
            known = known_of(model)
            lot = widest(history)
            self.assertIs(type(lot), tuple)
            self.assertEqual(list(lot), sorted(set(lot)))
            self.assertTrue(all(apart(known, one, other) for one in lot for other in lot if one != other))
            self.assertEqual(len(lot), width(history))
            self.assertEqual(widest(tuple(list(history))), lot)


class LongestRow(unittest.TestCase):

    def test_histories(self):
        for history, told in (((), ()), ((FORK,), ()), (TALE, (0, 2)), (BY_ONE, tuple(range(60)))):
            self.assertEqual(longest_row(history), told)
        self.assertEqual(len(longest_row(ALL_APART)), 1)

    def test_all_small_orders(self):
        for known in all_small_orders():
            rows = rows_of(known)
            row = longest_row(history_of(known))
            self.assertEqual(len(row), max((len(row) for row in rows), default=0))
            if rows:
                self.assertIn(row, rows)

    def test_longer_histories(self):
        for history, model in some_histories():
            known = known_of(model)
            row = longest_row(history)
            self.assertEqual(len(row), len(levels(history)))
            self.assertTrue(all(row[a] in known[row[b]] for b in range(len(row)) for a in range(b)))
            self.assertEqual(longest_row(tuple(list(history))), row)


class FewestRows(unittest.TestCase):

    def test_histories(self):
        for history, told in (((), ()), ((FORK,), ()), (BY_ONE, (tuple(range(60)),))):
            self.assertEqual(fewest_rows(history), told)
        self.assertEqual(sorted(fewest_rows(ALL_APART)), [(deed,) for deed in range(19)])

    def test_all_small_orders(self):
        for known in all_small_orders():
            sharings = row_sharings_of(known)
            told = fewest_rows(history_of(known))
            self.assertIn(tuple(sorted(told)), sharings)
            self.assertEqual(len(told), min(len(sharing) for sharing in sharings))

    def test_longer_histories(self):
        for history, _ in some_histories():
            rows = fewest_rows(history)
            self.assertIs(type(rows), tuple)
            self.assertIs(is_row_sharing(history, rows), True)
            self.assertEqual(len(rows), width(history))
            self.assertEqual(fewest_rows(tuple(list(history))), rows)


class IsRowSharing(unittest.TestCase):

    def test_tale(self):
        for value, answer in ((((1,), (0, 2)), True), (((0, 2), (1,)), True), (((0,), (1,), (2,)), True),
                              (((2,), (0,), (1,)), True), (((0, 1), (2,)), False), (((1, 2), (0,)), False),
                              (((0, 2),), False), (((1,), (2, 0)), False), (((1,), (0, 2), ()), False),
                              (((1,), (0, 2), (2,)), False), (((1,), (0, 0, 2)), False), (((1,), (0, 2), (1,)), False),
                              (((1,), (0, 2), (3,)), False), (((1,), (0, 2, 3)), False), ((), False), (((),), False),
                              ((0, 1, 2), False), ((1, (0, 2)), False), (((True,), (0, 2)), False),
                              (((1,), (False, 2)), False), (((1,), [0, 2]), False), ([(1,), (0, 2)], False),
                              (((1,), ("0", 2)), False), (((1,), (None,)), False), (((1,), (0, 2), None), False),
                              ((((1,),), (0, 2)), False), (((1,), (0, -1)), False), (((-2,), (0, 2)), False)):
            with self.subTest(value):
                self.assertIs(is_row_sharing(TALE, value), answer)

    def test_without_deeds(self):
        for value, answer in (((), True), (((),), False), (((0,),), False), ([], False), (None, False), ("", False)):
            self.assertIs(is_row_sharing((), value), answer)
            self.assertIs(is_row_sharing((FORK,), value), answer)

    def test_all_small_orders(self):
        for known in orders(3) + orders(4)[::3]:
            sharings = set(row_sharings_of(known))
            for value in row_sharings_of([tuple(range(deed)) for deed in range(len(known))]):
                self.assertIs(is_row_sharing(history_of(known), value), value in sharings)
                self.assertIs(is_row_sharing(history_of(known), value[::-1]), value in sharings)

    def test_other_values(self):
        for value in strange_values() + [deep(40), ((0,) * 3000,), (tuple(range(60)),)]:
            with self.subTest(value):
                self.assertIs(is_row_sharing(TALE, value), False)
        self.assertIs(is_row_sharing(BY_ONE, (tuple(range(60)),)), True)
        self.assertIs(is_row_sharing(BY_ONE, (tuple(range(0, 60, 2)), tuple(range(1, 60, 2)))), True)


class RowCounts(unittest.TestCase):

    def test_tale(self):
        self.assertEqual(row_counts(TALE, ROWS, 0), (1, 1))
        self.assertEqual(row_counts(TALE, ROWS, 1), (0, 2))
        self.assertEqual(row_counts(TALE, ROWS[::-1], 1), (2, 0))
        self.assertEqual(row_counts(TALE, ((0,), (1,), (2,)), 1), (1, 0, 1))
        self.assertEqual(row_counts((FORK,), (), 1), ())

    def test_deeds_by(self):
        for numbers, lot in (((0, 0), ()), ((1, 0), (1,)), ((0, 1), (0,)), ((0, 2), (0, 2)), ((1, 2), (0, 1, 2)),
                             ((1, 1), (0, 1))):
            self.assertEqual(deeds_by(TALE, ROWS, numbers), lot)
        self.assertEqual(deeds_by(TALE, ROWS[::-1], (2, 0)), (0, 2))
        self.assertEqual(deeds_by((), (), ()), ())

    def test_against_the_model(self):
        for history, model in some_histories()[::2]:
            rows = fewest_rows(history)
            for mark in model.heard:
                told = row_counts(history, rows, mark)
                self.assertEqual(told, tuple(len(model.heard[mark] & set(row)) for row in rows))
                self.assertEqual(deeds_by(history, rows, told), heard(history, mark))

    def test_what_is_no_rows(self):
        for rows in (None, True, 0, "", [], (), ((),), ((1,), (0, 2), ()), ((0, 1), (2,)), ((0, 2),), [(1,), (0, 2)],
                     ((1,), [0, 2]), ((1,), (2, 0)), ((True,), (0, 2)), deep(40), ((0,),) * 1000):
            with self.subTest(rows):
                self.assertRaises(InvalidRows, row_counts, TALE, rows, 0)
                self.assertRaises(InvalidRows, row_counts, TALE, rows, None)
                self.assertRaises(InvalidRows, deeds_by, TALE, rows, (0, 0))
                self.assertRaises(InvalidRows, deeds_by, TALE, rows, None)

    def test_marks_of_no_copy(self):
        for mark in [2, 3, -1, True, False, None, "0", (0,), [0]] + strange_values():
            with self.subTest(mark):
                self.assertRaises(InvalidMark, row_counts, TALE, ROWS, mark)

    def test_what_is_no_numbers(self):
        for numbers in (None, True, 0, "", "00", [], [0, 0], (), (0,), (0, 0, 0), (2, 0), (0, 3), (-1, 0), (0, -1),
                        (True, 0), (0, False), (0, None), ("0", 0), (0, "1"), ((0,), 0), (0, [0]), (10 ** 89, 0),
                        deep(40), (0,) * 3000):
            with self.subTest(numbers):
                self.assertRaises(InvalidNumbers, deeds_by, TALE, ROWS, numbers)
        self.assertRaises(InvalidNumbers, deeds_by, (), (), (0,))

    def test_the_history_first(self):
        for value in (None, [], (None,), (FORK, ("deed", 2))):
            self.assertRaises(InvalidHistory, row_counts, value, None, None)
            self.assertRaises(InvalidHistory, deeds_by, value, None, None)
            for call in (levels, width, widest, longest_row, fewest_rows):
                self.assertRaises(InvalidHistory, call, value)
            self.assertRaises(InvalidHistory, is_row_sharing, value, ())


if __name__ == "__main__":
    unittest.main()
