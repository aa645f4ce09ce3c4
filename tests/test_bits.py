"""[23]: words of bits."""

import unittest

from heirstamps.bits import false_pairs, least_size, seems, word_of
from heirstamps.errors import InvalidCount, InvalidHistory, InvalidMark
from heirstamps.histories import deeds, marks
from tests.support import some_histories

TALE = (("fork", 0), ("deed", 0), ("fork", 1), ("deed", 2), ("hear", 1, 0), ("deed", 1), ("join", 0, 2))
APART = (("fork", 0), ("deed", 0), ("deed", 1))


def marked(heard, size, bits):
    """The remainders that these deeds mark, one by one from the words of [23]."""
    word = set()
    for deed in heard:
        for j in range(bits):
            word.add(((deed + 1) * (2 * j + 1) + j) % size)
    return word


class Words(unittest.TestCase):

    def test_small_ones(self):
        self.assertEqual(word_of((), 0, 5, 4), ())
        self.assertEqual(word_of((("deed", 0),), 0, 64, 1), (1,))
        self.assertEqual(word_of((("deed", 0),), 0, 64, 2), (1, 4))
        self.assertEqual(word_of((("deed", 0),), 0, 64, 4), (1, 4, 7, 10))
        self.assertEqual(word_of((("deed", 0),) * 2, 0, 64, 4), (1, 2, 4, 7, 10, 12, 17))
        self.assertEqual(word_of((("deed", 0),) * 3, 0, 1, 4), (0,))
        self.assertEqual(word_of((("deed", 0),) * 60, 0, 64, 1), tuple(range(1, 61)))
        self.assertEqual(word_of(TALE, 0, 2, 1), (0, 1))
        self.assertEqual(word_of(TALE, 1, 2, 1), (1,))

    def test_against_a_plain_reckoning(self):
        for history, model in some_histories()[::9]:
            for mark in model.heard:
                for size in (1, 2, 7, 31, 63, 64):
                    for bits in range(1, 5):
                        told = word_of(history, mark, size, bits)
                        self.assertEqual(told, tuple(sorted(marked(model.heard[mark], size, bits))))


class Seems(unittest.TestCase):

    def test_small_ones(self):
        self.assertIs(seems(TALE, 0, 1, 2, 1), True)
        self.assertIs(seems(TALE, 1, 0, 2, 1), False)
        self.assertIs(seems(APART, 0, 1, 1, 1), True)
        self.assertIs(seems(APART, 0, 1, 2, 1), False)
        self.assertIs(seems(APART, 0, 0, 64, 4), True)

    def test_against_a_plain_reckoning(self):
        for history, model in some_histories()[::11]:
            for size, bits in ((1, 1), (3, 1), (5, 2), (9, 3), (64, 4)):
                pairs = []
                for one in sorted(model.heard):
                    for other in sorted(model.heard):
                        part = marked(model.heard[other], size, bits) <= marked(model.heard[one], size, bits)
                        self.assertIs(seems(history, one, other, size, bits), part)
                        if part and not model.heard[other] <= model.heard[one]:
                            pairs.append((one, other))
                self.assertEqual(false_pairs(history, size, bits), pairs)


class FalsePairs(unittest.TestCase):

    def test_small_ones(self):
        self.assertEqual(false_pairs(TALE, 2, 1), [(0, 1)])
        self.assertEqual(false_pairs(TALE, 3, 1), [])
        self.assertEqual(false_pairs(APART, 1, 4), [(0, 1), (1, 0)])
        self.assertEqual(false_pairs((), 1, 1), [])
        self.assertEqual(false_pairs((("deed", 0),), 64, 4), [])

    def test_least_size(self):
        self.assertEqual(least_size(TALE, 1), 3)
        self.assertEqual(least_size((), 4), 1)
        self.assertEqual(least_size(APART, 1), 2)
        for history, _ in some_histories()[::17]:
            for bits in (1, 3, 4):
                sizes = [size for size in range(1, 65) if not false_pairs(history, size, bits)]
                self.assertEqual(least_size(history, bits), sizes[0] if sizes else None)

    def test_no_size_at_all(self):
        # The copy that has heard all but one deed of sixty marks with four bits what the one left out marks.
        history = (("fork", 0),) + (("deed", 0),) * 30 + (("deed", 1),) + (("deed", 0),) * 28
        told = least_size(history, 4)
        self.assertIsNone(told)
        self.assertTrue(all(false_pairs(history, size, 4) for size in range(1, 65)))
        # By one bit, 31 alone leaves no remainder by 31.
        self.assertEqual(least_size(history, 1), 31)


    def alone(self, count, deed):
        """A history of so many deeds, this one of which another copy has done."""
        return (("fork", 0),) + tuple(("deed", int(at == deed)) for at in range(count))

    def test_the_last_size(self):
        self.assertEqual(least_size(self.alone(46, 36), 3), 64)
        self.assertIsNone(least_size(self.alone(43, 42), 2))
        one, other = marked([42], 65, 2), marked(range(42), 65, 2)
        self.assertFalse(one <= other or other <= one)


class Wrong(unittest.TestCase):

    def test_sizes_and_bits(self):
        for size in (0, 65, -1, True, None, "1", (1,), [1], 10 ** 89):
            self.assertRaises(InvalidCount, word_of, TALE, 0, size, 1)
            self.assertRaises(InvalidCount, seems, TALE, 0, 1, size, 1)
            self.assertRaises(InvalidCount, false_pairs, TALE, size, 1)
        for bits in (0, 5, -1, True, None, "1", (1,), [1], 10 ** 89):
            self.assertRaises(InvalidCount, word_of, TALE, 0, 1, bits)
            self.assertRaises(InvalidCount, seems, TALE, 0, 1, 1, bits)
            self.assertRaises(InvalidCount, false_pairs, TALE, 1, bits)
            self.assertRaises(InvalidCount, least_size, TALE, bits)

    def test_bounds_that_are_good(self):
        for size in (1, 64):
            for bits in (1, 4):
                self.assertEqual(word_of((), 0, size, bits), ())
                self.assertIs(seems((), 0, 0, size, bits), True)
                self.assertEqual(false_pairs((), size, bits), [])

    def test_sequence_of_errors(self):
        self.assertRaises(InvalidHistory, word_of, None, None, None, None)
        self.assertRaises(InvalidMark, word_of, TALE, 2, None, None)
        self.assertRaises(InvalidMark, seems, TALE, 2, None, None, None)
        self.assertRaises(InvalidMark, seems, TALE, 0, 2, 0, 0)
        self.assertRaises(InvalidMark, seems, TALE, 2, 0, 0, 0)
        self.assertRaises(InvalidHistory, false_pairs, [], 0, 0)
        self.assertRaises(InvalidHistory, least_size, [], 0)


class E6(unittest.TestCase):

    def test_who_has_heard_seems_to(self):
        for history, model in some_histories()[::15]:
            for one in marks(history):
                for other in marks(history):
                    if model.heard[other] <= model.heard[one]:
                        for size, bits in ((1, 2), (4, 1), (13, 3), (64, 4)):
                            self.assertIs(seems(history, one, other, size, bits), True)

    def test_as_many_as_deeds(self):
        for history, _ in some_histories()[::11]:
            count = len(deeds(history))
            for size in range(max(count, 1), 65, 5):
                self.assertEqual(false_pairs(history, size, 1), [])
            self.assertLessEqual(least_size(history, 1), max(count, 1))


if __name__ == "__main__":
    unittest.main()
