"""The facts E1 to E5."""

import unittest

from heirstamps.chains import (
    are_apart, crown_history, deeds_by, fewest_entries, fewest_rows, greatest_crown, is_crown, is_entries,
    is_row_sharing, knows, levels, longest_row, row_counts, some_entries, widest, width,
)
from heirstamps.histories import deeds, heard, known_at, marks
from tests.plain import history_of, orders
from tests.support import some_histories, some_history


def histories():
    """Some histories of forty steps at most."""
    return [history for history, _ in some_histories() if len(history) <= 40]


class E1(unittest.TestCase):

    def test_what_a_deed_knows_is_known_to_what_knows_it(self):
        for history in histories()[::6]:
            known = [known_at(history, count) for count in range(1, len(deeds(history)) + 1)]
            for deed, lot in enumerate(known):
                for other in lot:
                    self.assertTrue(set(known[other]) <= set(lot))
                    self.assertIs(knows(history, deed, other), other != deed)
            for mark in marks(history):
                lot = heard(history, mark)
                for deed in lot:
                    self.assertTrue(set(known[deed]) <= set(lot))

    def test_levels(self):
        for history in histories():
            told = levels(history)
            self.assertEqual(len(told), len(longest_row(history)))
            self.assertEqual(sorted(deed for lot in told for deed in lot), list(range(len(deeds(history)))))
            for lot in told[:3]:
                for one in lot[:4]:
                    for other in lot[:4]:
                        self.assertIs(are_apart(history, one, other), one != other)


class E2(unittest.TestCase):

    def test_fewest_rows(self):
        widths = set()
        for history in [()] + histories() + [crown_history(count) for count in range(2, 7)]:
            rows = fewest_rows(history)
            self.assertEqual(len(rows), width(history))
            self.assertEqual(len(widest(history)), width(history))
            self.assertIs(is_row_sharing(history, rows), True)
            widths.add(len(rows))
        self.assertTrue({0, 1, 2, 3, 4, 5, 6} <= widths, widths)


class E3(unittest.TestCase):

    def test_lists_of_counts(self):
        answers = {True: 0, False: 0}
        for history in histories()[::2]:
            rows = fewest_rows(history)
            there = marks(history)
            told = {mark: row_counts(history, rows, mark) for mark in there}
            lots = {mark: heard(history, mark) for mark in there}
            for mark in there:
                self.assertEqual(deeds_by(history, rows, told[mark]), lots[mark])
                for row, number in zip(rows, told[mark]):
                    self.assertEqual([deed for deed in row if deed in lots[mark]], list(row[:number]))
                for other in there:
                    answer = set(lots[other]) <= set(lots[mark])
                    self.assertIs(all(a >= b for a, b in zip(told[mark], told[other])), answer)
                    answers[answer] += mark != other
        self.assertGreater(min(answers.values()), 50)

    def test_rows_of_another_sharing(self):
        history = crown_history(3)
        rows = tuple((deed,) for deed in range(6))
        for mark in marks(history):
            self.assertEqual(deeds_by(history, rows, row_counts(history, rows, mark)), heard(history, mark))


class E4(unittest.TestCase):

    def look(self, history):
        fewest = fewest_entries(history)
        self.assertLessEqual(fewest, width(history))
        self.assertIs(fewest == 1, width(history) == 1)
        crown = greatest_crown(history)
        self.assertTrue(crown is None or len(crown[0]) <= fewest)
        self.assertIs(is_entries(history, some_entries(history)), True)

    def test_all_orders_of_four_deeds_and_some_of_six(self):
        for known in [known for count in range(1, 5) for known in orders(count)] + orders(6)[::50]:
            self.look(history_of(known))

    def test_histories(self):
        looked = 0
        for seed in range(120):
            history, model = some_history(seed, 26, ("fork", "fork", "deed", "deed", "hear", "hear", "lose"), 7)
            if 0 < len(model.doers) <= 12:
                self.look(history)
                looked += 1
        self.assertGreater(looked, 60)


class E5(unittest.TestCase):

    def test_crown_histories(self):
        for count in range(2, 7):
            history = crown_history(count)
            crown = (tuple(range(count)), tuple(range(count, 2 * count)))
            self.assertIs(is_crown(history, crown), True)
            self.assertEqual(len(greatest_crown(history)[0]), count)
            self.assertEqual(width(history), count)
            self.assertEqual(fewest_entries(history), count)
            self.assertEqual([len(entry) for entry in some_entries(history)], [count] * 2 * count)


if __name__ == "__main__":
    unittest.main()
