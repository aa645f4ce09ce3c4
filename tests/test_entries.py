"""[21]: entries, tuples of integers that tell which deed knows which."""

import unittest

from heirstamps.chains import crown_history, fewest_entries, greatest_crown, is_entries, some_entries
from heirstamps.errors import InvalidHistory, TooMany
from tests.plain import entries_fit, fewest_entries_of, history_of, orders
from tests.support import Chance, deep, some_history, strange_values

FORK = ("fork", 0)
TALE = (FORK, ("deed", 0), ("fork", 1), ("deed", 2), ("hear", 1, 0), ("deed", 1), ("join", 0, 2))
TALE_ENTRIES = ((0, 1), (1, 0), (0, 2))
GREATEST = 999999999
APART = {many: (FORK,) + tuple(step for mark in range(2, many + 2)
                               for step in (("fork", mark % 2), ("deed", mark), ("lose", mark)))
         for many in (11, 12, 13, 14)}


def cube(three):
    """For each number below 2 ** three the lot of those whose bits it has, itself left out."""
    return [tuple(other for other in range(number) if other & number == other) for number in range(2 ** three)]


def sums(*orders_given):
    """The order of several orders beside one another."""
    told = []
    for known in orders_given:
        first = len(told)
        told.extend(tuple(first + deed for deed in lot) for lot in known)
    return told


def two_levels(masks, copies):
    """A history of so many copies that do a deed each, and of deeds that know those of these masks; and its order."""
    steps = [FORK] * (copies - 1) + [("deed", mark) for mark in range(copies)]
    known = [()] * copies
    for mark, mask in enumerate(masks, copies):
        lot = tuple(deed for deed in range(copies) if mask >> deed & 1)
        steps += [("fork", lot[0])] + [("hear", mark, deed) for deed in lot[1:]] + [("deed", mark), ("lose", mark)]
        known.append(lot)
    return tuple(steps), known


class FewestEntries(unittest.TestCase):

    def look(self, known, fewest):
        history = history_of(known)
        self.assertEqual(fewest_entries(history), fewest)
        self.look_at_entries(history, known, fewest)

    def look_at_entries(self, history, known, fewest):
        entries = some_entries(history)
        self.assertIs(type(entries), tuple)
        self.assertEqual([len(entry) for entry in entries], [fewest] * len(known))
        self.assertTrue(all(type(entry) is tuple for entry in entries))
        self.assertTrue(all(type(number) is int and abs(number) <= GREATEST for entry in entries for number in entry))
        self.assertTrue(entries_fit(known, entries))
        self.assertIs(is_entries(history, entries), True)
        self.assertEqual(some_entries(tuple(list(history))), entries)

    def test_all_orders_of_five_deeds(self):
        for count in range(6):
            for known in orders(count):
                self.look(known, fewest_entries_of(known))

    def test_some_orders_of_six_deeds(self):
        fewest = set()
        for known in orders(6)[::37] + [self.crown(3)]:
            fewest.add(fewest_entries_of(known))
            self.look(known, fewest_entries_of(known))
        self.assertTrue({2, 3} <= fewest)

    def crown(self, count):
        """The order of crown_history(count)."""
        return [()] * count + [tuple(other for other in range(count) if other != left) for left in range(count)]

    def test_orders_of_a_known_number(self):
        # Of lots by what they have it takes as many as there are members to have.
        self.look(cube(1), 1)
        self.look(cube(2), 2)
        self.look(cube(3), 3)
        # Beside one another it takes as many as the worst, but two at least.
        self.look(sums(cube(1), cube(1)), 2)
        self.look(sums(self.crown(3), cube(1)), 3)
        self.look(self.crown(4), 4)
        # Without a crown of three it can be three all the same.
        for known in ([(), (0,), (0,), (), (0, 1, 3), (0, 2, 3)], [(), (0,), (), (0, 2), (2,), (0, 1, 2, 4)]):
            self.assertEqual(fewest_entries_of(known), 3)
            self.look(known, 3)

    def test_crowns(self):
        for count in range(2, 7):
            history = crown_history(count)
            self.assertEqual(fewest_entries(history), count)
            self.look_at_entries(history, self.crown(count), count)

    def test_seven_deeds_of_which_no_crown_says_how_many(self):
        # Three legs: no three pairs of them ask for a sequence each, and two sequences will not do.
        for known in ([(), (), (), (0,), (1,), (2,), (0, 1, 2)], [(), (), (), (), (0, 1), (0, 2), (0, 3)]):
            self.assertEqual(fewest_entries_of(known), 3)
            self.assertEqual(len(greatest_crown(history_of(known))[0]), 2)
            self.look(known, 3)
        for masks in ((16, 8, 26, 2), (1, 2, 4, 7, 3), (64, 32, 96, 112, 16), (15, 1, 2, 4, 7)):
            history, known = two_levels(masks, 7)
            self.look_at_entries(history, known, 3)
            self.assertEqual(fewest_entries(history), 3)

    def test_twelve_deeds_of_two_levels(self):
        # A crown says that no fewer will do, and the entries that so many will.
        for masks, fewest in (((108, 78, 119, 63, 102), 4), ((46, 61, 43, 7, 39, 15), 5), ((60, 60, 59, 55, 46, 30), 5),
                              ((107, 59, 127, 91, 113), 4), ((62, 61, 59, 55, 47, 31), 6),
                              ((18, 34, 1, 37, 22, 48), 3), ((7, 46, 48, 28, 37, 55), 3), ((43, 56, 63, 34, 21, 38), 3)):
            history, known = two_levels(masks, 12 - len(masks))
            self.assertEqual(len(greatest_crown(history)[0]), fewest)
            self.assertEqual(fewest_entries(history), fewest)
            self.look_at_entries(history, known, fewest)

    def test_without_deeds(self):
        for history in ((), (FORK,), (FORK, ("lose", 0))):
            self.assertEqual(fewest_entries(history), 1)
            self.assertEqual(some_entries(history), ())

    def test_one_row(self):
        for many in range(1, 13):
            history = (("deed", 0),) * many
            self.assertEqual(fewest_entries(history), 1)
            entries = some_entries(history)
            self.assertEqual(sorted(entries), list(entries))
            self.assertEqual(len(set(entries)), many)

    def test_histories(self):
        chance = Chance(21)
        seen = set()
        for seed in range(150):
            names = ("fork", "fork", "deed", "deed", "hear", "hear", chance.one_of(("join", "lose", "hear")))
            history, model = some_history(seed, 30, names, 7)
            if len(model.doers) <= 12:
                known = [tuple(other for other in lot if other != deed) for deed, lot in enumerate(model.known)]
                fewest = fewest_entries(history)
                self.look_at_entries(history, known, fewest)
                if len(known) <= 6:
                    self.assertEqual(fewest, fewest_entries_of(known))
                seen.add(fewest)
        self.assertTrue({1, 2} <= seen)

    def test_twelve_deeds_and_thirteen(self):
        self.assertEqual([fewest_entries(APART[many]) for many in (11, 12)], [2, 2])
        self.assertIs(is_entries(APART[12], some_entries(APART[12])), True)
        for history in (APART[13], APART[14], (("deed", 0),) * 13, (("deed", 0),) * 60):
            for call in (fewest_entries, some_entries):
                with self.assertRaises(TooMany) as caught:
                    call(history)
                self.assertEqual(caught.exception.count, 12)

    def test_the_history_first(self):
        for value in (None, [], (None,), (("deed", 0),) * 61):
            for call in (fewest_entries, some_entries, lambda history: is_entries(history, None)):
                self.assertRaises(InvalidHistory, call, value)


class IsEntries(unittest.TestCase):

    def test_tale(self):
        for value, answer in ((TALE_ENTRIES, True), (((0, 1), (1, 0), (0, 1)), False), (((0, 1), (0, 1), (0, 2)), False),
                              (((0, 0), (1, 1), (2, 2)), False), (((5, -1), (-1, 5), (6, 0)), True),
                              (((5, -1), (-1, 5), (5, 4)), True), (((5, -1), (-1, 5), (5, 5)), False),
                              (((0, 1, 0), (1, 0, 0), (0, 2, 0)), True), (((0, 1, 7), (1, 0, 7), (0, 2, 6)), False),
                              (((0,), (1,), (2,)), False), (((0, 1), (1, 0)), False),
                              (((0, 1), (1, 0), (0, 2), (3, 3)), False), (((0, 1), (1, 0), (0, 2, 0)), False),
                              (((0, 1), (1, 0, 5), (0, 2)), False), (((0, 1, 1), (1, 0), (0, 2)), False),
                              (((), (), ()), False), ((0, 1, 2), False), ([(0, 1), (1, 0), (0, 2)], False),
                              (((0, 1), (1, 0), [0, 2]), False), (([0, 1], (1, 0), (0, 2)), False),
                              (((0, True), (1, 0), (0, 2)), False), (((False, 1), (1, 0), (0, 2)), False),
                              (((0, 1), (1, 0), (None, 2)), False), (((0, "1"), (1, 0), (0, 2)), False),
                              (((0, 1), (1, (0,)), (0, 2)), False), ((), False), (None, False), (True, False)):
            with self.subTest(value):
                self.assertIs(is_entries(TALE, value), answer)

    def test_999999999_and_beyond(self):
        for far, answer in ((GREATEST, True), (GREATEST + 1, False), (10 ** 89, False)):
            self.assertIs(is_entries(TALE, ((0, 1), (1, 0), (0, far))), answer)
            self.assertIs(is_entries(TALE, ((0, -far), (-far, 0), (0, -1))), answer)
            self.assertIs(is_entries((("deed", 0),), ((far,),)), answer)
            self.assertIs(is_entries((("deed", 0),), ((-far,),)), answer)
            self.assertIs(is_entries((("deed", 0),), ((0, far),)), answer)

    def test_without_deeds(self):
        for value, answer in (((), True), (((),), False), (((0,),), False), ([], False), (None, False), (0, False)):
            self.assertIs(is_entries((FORK,), value), answer)

    def test_one_deed(self):
        for value, answer in ((((0,),), True), (((3, -4, 0),), True), (((),), False), (((0,), (0,)), False), ((), False),
                              (((0,) * 2999,), True), (((True,),), False)):
            self.assertIs(is_entries((("deed", 0),), value), answer)

    def test_deeds_apart_with_the_same_entry(self):
        history = (FORK, ("deed", 0), ("deed", 1))
        for value, answer in ((((0, 0), (0, 0)), False), (((0, 1), (0, 1)), False), (((0, 1), (1, 0)), True),
                              (((0, 1), (1, 1)), False)):
            self.assertIs(is_entries(history, value), answer)
        # A deed that knows another one must not have the same entry, either.
        self.assertIs(is_entries((("deed", 0),) * 2, ((0,), (0,))), False)
        self.assertIs(is_entries((("deed", 0),) * 2, ((0, 0), (0, 1))), True)

    def test_many_deeds(self):
        row = (("deed", 0),) * 60
        self.assertIs(is_entries(row, tuple((at,) for at in range(60))), True)
        self.assertIs(is_entries(row, tuple((at,) for at in range(60, 0, -1))), False)
        self.assertIs(is_entries(row, tuple((at,) * 48 for at in range(60))), True)
        self.assertIs(is_entries(APART[14], tuple((at, -at) for at in range(14))), True)
        self.assertIs(is_entries(APART[14], tuple((at, -at) for at in range(13)) + ((13, -12),)), False)

    def test_against_plain_words(self):
        chance = Chance(3)
        answers = []
        for known in orders(4):
            history = history_of(known)
            for _ in range(30):
                value = [list(entry) for entry in some_entries(history)]
                for _ in range(1 + chance.below(3)):
                    entry = chance.one_of(value)
                    entry[chance.below(len(entry))] += chance.below(5) - 2
                answers.append(is_entries(history, tuple(tuple(entry) for entry in value)))
                self.assertIs(answers[-1], entries_fit(known, value))
        self.assertTrue(200 < answers.count(True) < 1000, answers.count(True))

    def test_other_values(self):
        for value in strange_values() + [deep(40), ((0, 1),) * 3, ((0,) * 999,) * 3]:
            with self.subTest(value):
                self.assertIs(is_entries(TALE, value), False)


if __name__ == "__main__":
    unittest.main()
