"""[27], [28]: crews, lost shares, and who may take them."""

import unittest

from heirstamps.dots import least_counts
from heirstamps.errors import InvalidCrew, InvalidHistory, InvalidMember, InvalidShare, NotHeard, NotLost, TooMany
from heirstamps.histories import marks, stamp_of
from heirstamps.lost import (
    barring, crew_of, hear_first, is_crew, lost_share, may_take, takeable, taken, takers,
)
from heirstamps.shares import is_share, united
from tests.plain import all_lots
from tests.support import (
    Chance, all_shares, cells, chain_counts, chain_share, counts_of, full_counts, full_share, paths_of, share_of,
    some_histories, strange_values, tuples_in,
)

END = (("fork", 0), ("fork", 1), ("deed", 2), ("hear", 1, 2), ("deed", 2), ("hear", 0, 2), ("lose", 2))
CREW = (((1, 0), (0, 0, (0, 0, 2))), ((0, (1, 0)), (0, 0, (0, 0, 1))))
PART = (0, (0, 1))
K = 3


def eighths(many):
    """Shares of one eighth each."""
    return [share_of([int(at == index) for at in range(8)]) for index in range(many)]


def some_crew(seed):
    """A crew by cells: for each of eight cells its owner or None, and the worths of the counts of each member."""
    chance = Chance(seed)
    many = 1 + chance.below(4)
    owners = [chance.one_of(list(range(many)) + [None] * many) for _ in range(2 ** K)]
    rows = [[chance.below(3) for _ in range(2 ** K)] for _ in range(many)]
    if chance.below(3) == 0:
        rows = [[max(cell) for cell in zip(row, rows[0])] for row in rows]
    crew = tuple((share_of([int(owner == member) for owner in owners]), counts_of(row))
                 for member, row in enumerate(rows))
    return crew, owners, rows


def first_kept(owners, row):
    """The first path that the cells of a share and some one member have in common; None for none."""
    paths = []
    for member in set(owners) - {None}:
        common = [int(cell and owner == member) for cell, owner in zip(row, owners)]
        paths += paths_of(common)[:1]
    return min(paths, default=None)


def bars(rows, own, row):
    """The members with a greater worth than own, at some cell of the share."""
    return tuple(member for member, told in enumerate(rows)
                 if any(cell and worth > mine for cell, worth, mine in zip(row, told, own)))


class IsCrew(unittest.TestCase):

    def test_crews(self):
        for value in (((1, 0),), ((0, 0),), ((0, 5),) * 8, CREW, ((0, 0), (1, 3)), ((1, 0), (0, 3), (0, 4)),
                      tuple((share, 1) for share in eighths(8)), ((chain_share(12), chain_counts(12)),),
                      ((full_share(6), full_counts(6)),)):
            self.assertIs(is_crew(value), True)

    def test_others(self):
        for value in ((), ((0, 0),) * 9, tuple((share, 1) for share in eighths(8)) + ((0, 0),), ((1, 0), (1, 0)),
                      (((1, 0), 0), ((1, 0), 0)), ((1, 0), ((0, chain_share(11)), 0)), [(1, 0)], ([1, 0],), (1, 0),
                      ((2, 0),), ((1, (0, 0, 0)),), ((1, -1),), ((1, 0, 0),), ((True, 0),), (CREW,), ((1, 0), None),
                      ((full_share(7), 0),), ((0, full_counts(7)),), (((0, 1), 0), ((1, (0, 1)), 0))):
            self.assertIs(is_crew(value), False)
        for value in strange_values():
            self.assertIs(is_crew(value), False)

    def test_crew_of(self):
        self.assertEqual(crew_of(()), ((1, 0),))
        self.assertEqual(crew_of(END), CREW)
        for history, _ in some_histories()[::5]:
            told = crew_of(history)
            self.assertEqual(told, tuple(stamp_of(history, mark) for mark in marks(history)))
            self.assertIs(is_crew(told), True)
        self.assertRaises(InvalidHistory, crew_of, None)


class LostShare(unittest.TestCase):

    def test_small_ones(self):
        self.assertEqual(lost_share(CREW), PART)
        self.assertEqual(lost_share(((1, 7),)), 0)
        self.assertEqual(lost_share(((0, 7), (0, 1))), 1)
        self.assertEqual(lost_share(((chain_share(12), 7),)), owned_rest(12))

    def test_by_cells(self):
        for seed in range(60):
            crew, owners, _ = some_crew(seed)
            self.assertEqual(cells(lost_share(crew), K), [int(owner is None) for owner in owners])

    def test_tuples_63_and_64(self):
        # One member's share leaves the least, another one, elsewhere, more.
        left, right = full_share(5), full_share(5)
        self.assertEqual(tuples_in(lost_share((((left, 0), 0), ((0, right), 0)))), 63)
        for more in (full_share(5, ((0, 1), 0)), full_share(5, ((0, (1, 0)), 0))):
            with self.assertRaises(TooMany) as caught:
                lost_share((((left, 0), 0), ((0, more), 0)))
            self.assertEqual(caught.exception.count, 63)


def owned_rest(deep):
    """What a share of the first path of so many halves leaves."""
    share = 0
    for _ in range(deep):
        share = (share, 1)
    return share


class MayTake(unittest.TestCase):

    def test_small_ones(self):
        self.assertIs(may_take(CREW, 0, PART), True)
        self.assertIs(may_take(CREW, 0, 1), False)
        self.assertIs(may_take(CREW, 1, PART), False)
        self.assertIs(may_take(CREW, 1, 0), True)
        self.assertIs(may_take(CREW, 0, (0, (0, (1, 0)))), True)
        self.assertIs(may_take(CREW, 0, (1, 0)), False)
        self.assertEqual(barring(CREW, 1, PART), (0,))
        self.assertEqual(barring(CREW, 0, PART), ())
        self.assertEqual(barring(CREW, 1, 1), (0,))
        self.assertEqual(barring(CREW, 1, (1, (1, 0))), ())

    def test_by_cells(self):
        answers = {True: 0, False: 0}
        for seed in range(80):
            crew, owners, rows = some_crew(seed)
            chance = Chance(seed + 900)
            for _ in range(12):
                row = [chance.below(3) == 0 and (owner is None or chance.below(6) == 0) for owner in owners]
                row = [int(cell) for cell in row]
                for member in range(len(crew)):
                    aim = bars(rows, rows[member], row)
                    self.assertEqual(barring(crew, member, share_of(row)), aim)
                    may = not aim and first_kept(owners, row) is None
                    self.assertIs(may_take(crew, member, share_of(row)), may)
                    answers[may] += 1
        self.assertGreater(min(answers.values()), 200)

    def test_a_path_of_twelve_halves_alone(self):
        one = (0, 5)
        other = (0, least_counts((((), 5), ((1,) * 12, 6))))
        crew = (one, other)
        self.assertEqual(barring(crew, 0, 1), (1,))
        self.assertEqual(barring(crew, 1, 1), ())
        self.assertEqual(barring(crew, 0, chain_share(12, (1,))), (1,))
        self.assertEqual(barring(crew, 0, chain_share(12, (1,) * 11 + (0,))), ())
        self.assertEqual(takeable(crew, 0), united((1, 0), share_of_rest(12)))
        self.assertEqual(takeable(crew, 1), 1)
        self.assertEqual(hear_first(crew, 0, chain_share(11, (1,))), (1,))
        self.assertEqual(hear_first(crew, 0, chain_share(12, (1,) * 11 + (0,))), ())


def share_of_rest(deep):
    """All of the right half but for the last path of so many halves."""
    share = 0
    for _ in range(deep - 1):
        share = (1, share)
    return (0, share)


class Takeable(unittest.TestCase):

    def test_small_ones(self):
        self.assertEqual(takeable(CREW, 0), PART)
        self.assertEqual(takeable(CREW, 1), 0)
        self.assertEqual(takeable(((1, 7),), 0), 0)
        self.assertEqual(takeable(((0, 7),), 0), 1)

    def test_by_cells(self):
        for seed in range(120):
            crew, owners, rows = some_crew(seed)
            for member, own in enumerate(rows):
                most = [max(told) for told in zip(*rows)]
                aim = [int(owner is None and mine == top) for owner, mine, top in zip(owners, own, most)]
                self.assertEqual(cells(takeable(crew, member), K), aim)

    def test_tuples_63_and_64(self):
        crew = ((0, 0), (0, full_counts(6)))
        self.assertEqual(tuples_in(takeable(crew, 0)), 63)
        self.assertEqual(takeable(crew, 1), 1)
        crew = ((0, 0), (0, (0, full_counts(5), 0)), (0, (0, 0, full_counts(5, (0, 1, (0, 0, 1))))))
        with self.assertRaises(TooMany) as caught:
            takeable(crew, 0)
        self.assertEqual(caught.exception.count, 63)
        self.assertEqual(tuples_in(takeable(crew, 1)), 33)


class Takers(unittest.TestCase):

    def test_small_ones(self):
        self.assertEqual(takers(CREW, PART), (0,))
        self.assertEqual(takers(CREW, 0), (0, 1))
        self.assertEqual(takers(((0, 1),) * 8, 1), tuple(range(8)))
        self.assertEqual(takers(((0, 1), (0, 3), (0, 2), (0, 3)), 1), (1, 3))
        self.assertEqual(takers(((0, (0, 1, 0)), (0, (0, 0, 1))), 1), ())

    def test_by_cells(self):
        for seed in range(100):
            crew, owners, rows = some_crew(seed)
            chance = Chance(seed + 500)
            for _ in range(4):
                row = [int(owner is None and chance.below(2) == 0) for owner in owners]
                aim = tuple(member for member, own in enumerate(rows) if not bars(rows, own, row))
                self.assertEqual(takers(crew, share_of(row)), aim)


class HearFirst(unittest.TestCase):

    def test_small_ones(self):
        self.assertEqual(hear_first(CREW, 1, PART), (0,))
        self.assertEqual(hear_first(CREW, 0, PART), ())
        self.assertEqual(hear_first(CREW, 1, 0), ())
        self.assertEqual(hear_first(((0, 0), (0, 2), (0, 2)), 0, 1), (1,))
        self.assertEqual(hear_first(((0, (0, 1, 0)), (0, (0, 0, 1)), (0, 0)), 2, 1), (0, 1))
        self.assertEqual(hear_first(((0, (0, 1, 0)), (0, (0, 0, 1)), (0, 1)), 0, 1), (1,))
        self.assertEqual(hear_first(((0, 1),), 0, 1), ())

    def test_by_cells(self):
        sizes = set()
        for seed in range(150):
            crew, owners, rows = some_crew(seed)
            chance = Chance(seed + 700)
            row = [int(owner is None and chance.below(3) > 0) for owner in owners]
            for member, own in enumerate(rows):
                for lot in all_lots([other for other in range(len(rows)) if other != member]):
                    told = [max(worth) for worth in zip(own, *[rows[other] for other in lot])]
                    if not bars(rows, told, row):
                        break
                self.assertEqual(hear_first(crew, member, share_of(row)), lot)
                sizes.add(len(lot))
        self.assertGreaterEqual(sizes, {0, 1, 2})

    def test_no_bound_of_tuples(self):
        eighth = [((0,) * 3, (1,) * 3), ((1, 0, 1), (0, 1, 0)), ((0, 1, 1), (1, 0, 0)), ((0, 0, 1), (1, 1, 0))]
        several = [least_counts(tuple((path + (0, 1) * 4, 1) for path in sorted(pair))) for pair in eighth]
        crew = ((0, 0),) + tuple((0, counts) for counts in several)
        self.assertGreater(sum(tuples_in(counts) for counts in several), 80)
        self.assertEqual(hear_first(crew, 0, 1), (1, 2, 3, 4))
        self.assertEqual(hear_first(crew, 2, 1), (1, 3, 4))


class Taken(unittest.TestCase):

    def test_small_ones(self):
        self.assertEqual(taken(CREW, 0, PART), (((1, (0, 1)), (0, 0, (0, 0, 2))), CREW[1]))
        self.assertEqual(taken(CREW, 1, 0), CREW)
        self.assertEqual(taken(((0, 3),), 0, 1), ((1, 3),))
        self.assertEqual(taken(((0, 3), ((1, 0), 3)), 1, (0, 1)), ((0, 3), (1, 3)))
        self.assertEqual(taken(((0, 3), ((1, 0), 3)), 0, (0, (0, 1))), (((0, (0, 1)), 3), ((1, 0), 3)))

    def test_not_heard(self):
        for crew, member, share, least in ((CREW, 1, PART, 0), (((0, 0), (0, 2), (0, 1)), 0, 1, 1),
                                           (((0, 0), (0, 2), (0, 1)), 2, 1, 1), (((0, 1), (0, 0), (0, 1)), 1, 1, 0),
                                           (((0, 0), (0, 0), (0, (0, 0, 1))), 0, (0, 1), 2)):
            with self.assertRaises(NotHeard) as caught:
                taken(crew, member, share)
            self.assertEqual(caught.exception.member, least)
        self.assertEqual(taken(((0, 0), (0, 0), (0, (0, 0, 1))), 0, (1, 0))[0], ((1, 0), 0))

    def test_by_cells(self):
        for seed in range(80):
            crew, owners, _ = some_crew(seed)
            for member in range(len(crew)):
                share = takeable(crew, member)
                told = taken(crew, member, share)
                row = [int(owner == member or cell) for owner, cell in zip(owners, cells(share, K))]
                self.assertEqual(told[member], (share_of(row), crew[member][1]))
                self.assertEqual(told[:member] + told[member + 1:], crew[:member] + crew[member + 1:])
                self.assertIs(is_crew(told), True)

    def test_tuples_63_and_64(self):
        left = (full_share(5), 0)
        crew = ((left, 0), (0, 0))
        self.assertEqual(tuples_in(taken(crew, 0, (0, full_share(5)))[0][0]), 63)
        for more in (full_share(5, ((1, 0), 0)), full_share(5, ((0, 1), (0, 1)))):
            self.assertIs(is_share((0, more)), True)
            with self.assertRaises(TooMany) as caught:
                taken(crew, 0, (0, more))
            self.assertEqual(caught.exception.count, 63)
            self.assertRaises(NotHeard, taken, (crew[0], (0, 1)), 0, (0, more))


class NotLostShares(unittest.TestCase):

    def look(self, crew, share, path):
        for call, parts in ((takers, (crew, share)), (hear_first, (crew, 0, share)), (taken, (crew, 0, share))):
            with self.subTest(call.__name__, share=share), self.assertRaises(NotLost) as caught:
                call(*parts)
            self.assertEqual(caught.exception.path, path)

    def test_small_ones(self):
        self.look(CREW, (0, 1), (1, 0))
        self.look(CREW, 1, (0,))
        self.look(CREW, (0, (1, 0)), (1, 0))
        self.look(((1, 0),), 1, ())
        self.look(((1, 0),), (0, (0, 1)), (1, 1))
        self.look(((chain_share(12), 0),), 1, (0,) * 12)
        # The left half is that of two members; each one is looked at by itself.
        self.look(((((0, 1), 0), 0), (((1, 0), 0), 0)), 1, (0, 0))
        self.look((((0, (1, 0)), 0), (((0, 1), 0), 0)), 1, (0, 1))
        self.look(((0, 0), ((0, 1), 0), (0, 0)), ((1, 0), (0, (1, 0))), (1, 1, 0))

    def test_ahead_of_not_heard(self):
        self.look(((0, 0), ((1, 0), 4)), 1, (0,))
        self.assertRaises(NotHeard, taken, ((0, 0), ((1, 0), 4)), 0, (0, 1))
        self.assertIs(may_take(((0, 0), ((1, 0), 4)), 0, 1), False)
        self.assertEqual(barring(((0, 0), ((1, 0), 4)), 0, 1), (1,))

    def test_by_cells(self):
        for seed in range(100):
            crew, owners, _ = some_crew(seed)
            for share in all_shares(2):
                path = first_kept(owners, cells(share, K))
                if path is not None:
                    self.look(crew, share, path)
                else:
                    self.assertEqual(sum(cells(share, K)), len([1 for at, owner in enumerate(owners)
                                                                if owner is None and cells(share, K)[at]]))


class Wrong(unittest.TestCase):

    def test_members(self):
        for member in (2, -1, None, True, False, "0", (0,), [], 10 ** 89):
            for call in (may_take, barring, hear_first, taken):
                self.assertRaises(InvalidMember, call, CREW, member, None)
            self.assertRaises(InvalidMember, takeable, CREW, member)
        self.assertRaises(InvalidMember, takeable, ((1, 0),), 1)
        self.assertEqual(takeable(((0, 0),) * 8, 7), 1)

    def test_crews(self):
        for crew in (None, (), [], list(CREW), ((1, 0), (1, 0)), ((0, 0),) * 9, ((1, 0), None), (1, 0)):
            for call in (may_take, barring, hear_first, taken):
                self.assertRaises(InvalidCrew, call, crew, None, None)
            self.assertRaises(InvalidCrew, takeable, crew, None)
            self.assertRaises(InvalidCrew, takers, crew, None)
            self.assertRaises(InvalidCrew, lost_share, crew)

    def test_shares(self):
        for share in (None, True, 2, -1, (0, 0), (1, 1), [0, 1], (), full_share(7), chain_share(13)):
            for call in (may_take, barring, hear_first, taken):
                self.assertRaises(InvalidShare, call, CREW, 1, share)
            self.assertRaises(InvalidShare, takers, CREW, share)


if __name__ == "__main__":
    unittest.main()
