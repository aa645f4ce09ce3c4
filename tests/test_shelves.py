"""[26]: strikes, and the shelves of the copies of a history."""

import unittest

from heirstamps.dots import dot_of, is_shelf
from heirstamps.errors import InvalidDeed, InvalidHistory, InvalidMark, InvalidStrikes, TooMany
from heirstamps.histories import heard, marks, stamp_of
from heirstamps.shelves import all_struck, held, shelf_of, struck_by
from tests.support import Chance, some_histories, strange_values

TALE = (("fork", 0), ("deed", 0), ("fork", 1), ("deed", 2), ("hear", 1, 0), ("deed", 1), ("join", 0, 2))
NONE = ((), (), ())


def some_strikes(model, seed):
    """Strikes of some of what the copies had heard, by chance."""
    chance = Chance(seed)
    return tuple(tuple(deed for deed in known if chance.below(4) == 0) for known in model.known)


class Held(unittest.TestCase):

    def test_small_ones(self):
        self.assertEqual(held(TALE, NONE, 0), (0, 1))
        self.assertEqual(held(TALE, NONE, 1), (0, 2))
        self.assertEqual(held(TALE, all_struck(TALE), 1), (2,))
        self.assertEqual(held(TALE, ((), (1,), ()), 0), (0,))
        self.assertEqual(held(TALE, ((), (1,), ()), 1), (0, 2))
        self.assertEqual(held((), (), 0), ())

    def test_a_deed_that_strikes_itself(self):
        self.assertEqual(held((("deed", 0),), ((0,),), 0), ())
        self.assertEqual(shelf_of((("deed", 0),), ((0,),), 0), (1, ()))
        self.assertEqual(struck_by((("deed", 0),), ((0,),), 0, 0), (0,))
        self.assertEqual(held((("deed", 0),) * 3, ((0,), (0, 1), (2,)), 0), ())
        self.assertEqual(held((("deed", 0),) * 3, ((), (1,), (1,)), 0), (0, 2))

    def test_against_a_plain_reckoning(self):
        for seed, (history, model) in enumerate(some_histories()[::3]):
            strikes = some_strikes(model, seed)
            for mark in model.heard:
                lot = model.heard[mark]
                aim = [deed for deed in lot if not any(deed in strikes[other] for other in lot)]
                self.assertEqual(held(history, strikes, mark), tuple(sorted(aim)))
                for deed in range(0, len(strikes), 3):
                    aim = [other for other in lot if deed in strikes[other]]
                    self.assertEqual(struck_by(history, strikes, mark, deed), tuple(sorted(aim)))


class StruckBy(unittest.TestCase):

    def test_small_ones(self):
        strikes = all_struck(TALE)
        self.assertEqual(struck_by(TALE, strikes, 1, 0), (2,))
        self.assertEqual(struck_by(TALE, strikes, 0, 0), ())
        self.assertEqual(struck_by(TALE, strikes, 1, 1), ())
        self.assertEqual(struck_by((("deed", 0),) * 4, all_struck((("deed", 0),) * 4), 0, 1), (2, 3))

    def test_deeds_that_are_none(self):
        for deed in (3, -1, None, True, "0", (0,), 10 ** 89):
            self.assertRaises(InvalidDeed, struck_by, TALE, NONE, 0, deed)
        self.assertRaises(InvalidDeed, struck_by, (), (), 0, 0)
        self.assertEqual(struck_by(TALE, NONE, 0, 2), ())


class ShelfOf(unittest.TestCase):

    def test_small_ones(self):
        self.assertEqual(shelf_of((), (), 0), (0, ()))
        self.assertEqual(shelf_of(TALE, NONE, 0), ((0, 1, (0, 0, 1)), (((0,), 1), ((1, 1), 1))))
        self.assertEqual(shelf_of(TALE, all_struck(TALE), 1), ((0, 1, (0, 1, 0)), (((1, 0), 1),)))

    def test_against_the_words(self):
        for seed, (history, model) in enumerate(some_histories()[::5]):
            strikes = some_strikes(model, seed + 300)
            for mark in marks(history):
                told = shelf_of(history, strikes, mark)
                aim = sorted(dot_of(history, deed) for deed in held(history, strikes, mark))
                self.assertEqual(told, (stamp_of(history, mark)[1], tuple(aim)))
                self.assertIs(is_shelf(told), True)

    def test_forty_dots_and_one_more(self):
        forty, more = (("deed", 0),) * 40, (("deed", 0),) * 41
        self.assertEqual(len(shelf_of(forty, ((),) * 40, 0)[1]), 40)
        with self.assertRaises(TooMany) as caught:
            shelf_of(more, ((),) * 41, 0)
        self.assertEqual(caught.exception.count, 40)
        self.assertEqual(len(shelf_of(more, ((),) * 40 + ((7,),), 0)[1]), 40)
        self.assertEqual(len(shelf_of(more, ((),) * 40 + ((40,),), 0)[1]), 40)
        self.assertEqual(len(held(more, ((),) * 41, 0)), 41)
        self.assertEqual(shelf_of(more + (("fork", 0),) * 2, ((),) * 39 + ((0, 1), (2, 3)), 2)[0], 41)


class AllStruck(unittest.TestCase):

    def test_small_ones(self):
        self.assertEqual(all_struck(()), ())
        self.assertEqual(all_struck(TALE), ((), (), (0,)))
        self.assertEqual(all_struck((("deed", 0),) * 3), ((), (0,), (0, 1)))

    def test_against_what_was_known(self):
        for history, model in some_histories()[::5]:
            aim = tuple(known[:-1] for known in model.known)
            self.assertEqual(all_struck(history), aim)
            for mark in marks(history):
                self.assertLessEqual(set(held(history, aim, mark)), set(heard(history, mark)))


class Wrong(unittest.TestCase):

    def look(self, strikes, index, history=TALE):
        for call, rest in ((held, (None,)), (shelf_of, (None,)), (struck_by, (None, None))):
            with self.subTest(call.__name__, strikes=strikes), self.assertRaises(InvalidStrikes) as caught:
                call(history, strikes, *rest)
            self.assertEqual(caught.exception.index, index)

    def test_entries(self):
        self.look(((1,), (), ()), 0)
        self.look(((), (0,), ()), 1)
        self.look(((), (), (1,)), 2)
        self.look(((), (), (2, 0)), 2)
        self.look(((), (), (0, 0)), 2)
        self.look(((), (), (3,)), 2)
        self.look(((), (-1,), ()), 1)
        self.look(((False,), (), ()), 0)
        self.look(((), (True,), ()), 1)
        self.look(((), [1], (1,)), 1)
        self.look(((), (), 0), 2)
        self.look((None, (0,), ()), 0)
        self.look(((), ("1",), ()), 1)
        self.look(((), (), ((0,),)), 2)
        self.assertEqual(held(TALE, ((0,), (1,), (0, 2)), 0), ())

    def test_lengths(self):
        self.look((), 0)
        self.look(((),), 1)
        self.look(((), ()), 2)
        self.look(((), (), (), ()), 3)
        self.look(((), (), (), None), 3)
        self.look(NONE + ((),) * 900, 3)
        self.look(((), (0,), (), ()), 1)
        self.look(((), (0,)), 1)
        self.look(((),), 0, ())
        self.look(((),) * 61, 60, (("deed", 0),) * 60)

    def test_no_tuples(self):
        for value in (None, True, 3, "", [], [(), (), ()], list(NONE), -1, 10 ** 89):
            self.look(value, 0)
        for value in strange_values():
            self.look(value, 2 if value == ((), ()) else 0)

    def test_sequence_of_errors(self):
        self.assertRaises(InvalidHistory, held, None, None, None)
        self.assertRaises(InvalidMark, held, TALE, NONE, 2)
        self.assertRaises(InvalidMark, shelf_of, (("deed", 0),) * 41, ((),) * 41, 1)
        self.assertRaises(InvalidMark, struck_by, TALE, NONE, 2, 3)
        self.assertRaises(InvalidHistory, all_struck, [])


if __name__ == "__main__":
    unittest.main()
