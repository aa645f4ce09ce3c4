"""The facts F1 to F5 and G1 to G4 (E6 stands in test_bits)."""

import unittest
from itertools import combinations, product

from heirstamps.counts import is_within, joined, raised, worth_at
from heirstamps.dots import deeds_told, dot_behind, dot_of, has_dot, least_counts, merged, put, struck_off
from heirstamps.errors import StampError
from heirstamps.histories import deeds, heard, known_at, marks, stamp_of
from heirstamps.lost import crew_of, hear_first, lost_share, may_take, takeable, taken
from heirstamps.shares import halved, less, owned_paths, united
from heirstamps.shelves import all_struck, held, shelf_of
from tests.plain import all_lots
from tests.support import Chance, all_counts, all_shares, cells, some_histories, some_history

FORK = ("fork", 0)
NAMES = ("fork", "fork", "deed", "deed", "deed", "hear", "hear", "join", "lose")


def small_histories():
    """Histories of few steps, with their models: all of at most four steps of one kind or another, and longer ones."""
    return [some_history(seed, 4 + seed % 14, NAMES, 6) for seed in range(60)]


def some_strikes(model, seed, often=3):
    """Strikes of some of what the copies had heard, by chance."""
    chance = Chance(seed)
    return tuple(tuple(deed for deed in known if chance.below(often) == 0) for known in model.known)


class F1(unittest.TestCase):

    def test_dots_of_unlike_deeds(self):
        for history, _ in some_histories()[::3] + tuple(small_histories()):
            count = len(deeds(history))
            dots = [dot_of(history, deed) for deed in range(count)]
            self.assertEqual(len(set(dots)), count)
            for mark in marks(history):
                counts = stamp_of(history, mark)[1]
                told = tuple(deed for deed, dot in enumerate(dots) if has_dot(counts, dot))
                self.assertEqual(told, heard(history, mark))
                self.assertEqual(deeds_told(history, counts), told)


class F2(unittest.TestCase):

    def shelves_behind(self, history, strikes):
        """The shelves of all copies behind a history, by merged, put and struck_off alone."""
        shelves = {0: (0, ())}
        shares = {0: 1}
        counter = 0
        dots = [dot_of(history, deed) for deed in range(len(deeds(history)))]
        for at, step in enumerate(history):
            mark = step[1]
            if step[0] == "fork":
                other = 1 + len([1 for done in history[:at] if done[0] == "fork"])
                shelves[other] = shelves[mark]
            if step[0] == "deed":
                lot = held(history[:at], strikes[:counter], mark)
                gone = tuple(sorted(dots[deed] for deed in lot if deed in strikes[counter]))
                call = struck_off if counter in strikes[counter] else put
                shelves[mark] = call(shares[mark], shelves[mark], gone)
                counter += 1
            if step[0] in ("hear", "join"):
                shelves[mark] = merged(shelves[mark], shelves[step[2]])
            shares = {there: stamp_of(history[:at + 1], there)[0] for there in marks(history[:at + 1])}
            shelves = {there: shelves[there] for there in shares}
            for there in shelves:
                self.assertEqual(shelves[there], shelf_of(history[:at + 1], strikes[:counter], there))
        return shelves

    def test_step_by_step(self):
        for seed in range(70):
            history, model = some_history(seed + 40, 8 + seed % 12, NAMES, 6)
            for strikes in (some_strikes(model, seed), all_struck(history), ((),) * len(model.known)):
                self.shelves_behind(history, strikes)

    def test_told_late_twice_and_in_any_sequence(self):
        for seed in range(40):
            history, model = some_history(seed + 500, 10 + seed % 10, NAMES, 6)
            strikes = some_strikes(model, seed, 2 + seed % 3)
            # Each shelf that any copy ever had, the elder ones among them, is told late to those of the end.
            elder = []
            for at in range(0, len(history), 2):
                count = len(deeds(history[:at]))
                elder += [(heard(history[:at], mark), shelf_of(history[:at], strikes[:count], mark))
                          for mark in marks(history[:at])]
            for mark in marks(history):
                shelf = shelf_of(history, strikes, mark)
                for lot, old in elder:
                    told = merged(shelf, old)
                    self.assertEqual(merged(old, shelf), told)
                    self.assertEqual(merged(told, old), told)
                    self.assertEqual(merged(told, shelf), told)
                    if set(lot) <= set(heard(history, mark)):
                        self.assertEqual(told, shelf)
            shelves = [shelf for _, shelf in elder][-9:]
            for one, two, three in combinations(shelves, 3):
                self.assertEqual(merged(merged(one, two), three), merged(one, merged(three, two)))


class F3(unittest.TestCase):

    def test_all_struck(self):
        for history, model in some_histories()[::3]:
            strikes = all_struck(history)
            for mark in marks(history):
                lot = set(heard(history, mark))
                known = set().union(*[set(model.known[deed]) - {deed} for deed in lot]) if lot else set()
                told = held(history, strikes, mark)
                self.assertEqual(set(told), lot - known)
                self.assertEqual(told == (), not lot)
                for one, other in combinations(told, 2):
                    self.assertNotIn(one, known_at(history, other + 1))
                    self.assertNotIn(other, known_at(history, one + 1))


class F4(unittest.TestCase):

    def test_least_counts_of_some_dots(self):
        fewer = 0
        for seed, (history, model) in enumerate(some_histories()):
            count = len(model.known)
            if count == 0 or seed % 2:
                continue
            chance = Chance(seed)
            for many in (1, 2, 3, 5):
                lot = sorted({chance.below(count) for _ in range(many)})
                dots = tuple(sorted(dot_of(history, deed) for deed in lot))
                told = deeds_told(history, least_counts(dots))
                known = set().union(*[model.known[deed] for deed in lot])
                self.assertLessEqual(set(told), known)
                self.assertLessEqual(set(lot), set(told))
                fewer += set(told) != known
        # Perhaps not of all of these.
        self.assertGreater(fewer, 10)


class F5(unittest.TestCase):

    def test_ahead_and_behind(self):
        for share in all_shares(2):
            for counts in all_counts(2, 2)[::2]:
                if share != 0:
                    dot = dot_behind(share, counts)
                    self.assertIs(has_dot(raised(share, counts), dot), True)
                    self.assertIs(has_dot(counts, dot), False)


class World:
    """Copies with stamps and what they have heard, of which some take over what is lost."""

    def __init__(self, history):
        self.copies = [(stamp_of(history, mark), set(heard(history, mark))) for mark in marks(history)]
        self.deeds = 100

    def crew(self):
        return tuple(stamp for stamp, _ in self.copies)

    def take(self, member, share):
        _, lot = self.copies[member]
        self.copies[member] = (taken(self.crew(), member, share)[member], lot)

    def deed(self, member):
        (share, counts), lot = self.copies[member]
        if share != 0:
            self.copies[member] = ((share, raised(share, counts)), lot | {self.deeds})
            self.deeds += 1

    def fork(self, member):
        (share, counts), lot = self.copies[member]
        if share != 0 and len(self.copies) < 8:
            kept, given = halved(share)
            self.copies[member] = ((kept, counts), lot)
            self.copies.append(((given, counts), lot))

    def hear(self, member, other):
        (share, counts), lot = self.copies[member]
        self.copies[member] = ((share, joined(counts, self.copies[other][0][1])), lot | self.copies[other][1])

    def join(self, member, other):
        self.hear(member, other)
        (share, counts), lot = self.copies[member]
        self.copies[member] = ((united(share, self.copies[other][0][0]), counts), lot)
        del self.copies[other]

    def go_on(self, chance):
        """One more step by chance; one that goes beyond the bounds of stamps is left out."""
        member = chance.below(len(self.copies))
        other = chance.below(len(self.copies))
        name = chance.one_of(("deed", "deed", "deed", "fork", "hear", "hear", "join", "lose", "take", "take"))
        try:
            if name == "take":
                self.take_some(member, chance)
            elif name in ("deed", "fork"):
                getattr(self, name)(member)
            elif member != other and name in ("hear", "join"):
                getattr(self, name)(member, other)
            elif name == "lose" and len(self.copies) > 2:
                del self.copies[member]
        except StampError as error:
            return type(error).__name__ == "TooMany"
        return True

    def take_some(self, member, chance):
        """Take all that the member may take, or some of it."""
        share = takeable(self.crew(), member)
        paths = owned_paths(share)
        if len(paths) > 1 and chance.below(2):
            share = less(share, united_paths(paths[::2]))
        self.take(member, share)


def united_paths(paths):
    """The share of these paths."""
    share = 0
    for path in paths:
        one = 1
        for half in reversed(path):
            one = (0, one) if half else (one, 0)
        share = united(share, one)
    return share


class G1(unittest.TestCase):

    def look(self, world):
        """See that counts tell who has heard what, of two copies, and of a copy and a lot."""
        for (one, lot), (other, other_lot) in product(world.copies, repeat=2):
            self.assertIs(is_within(one[1], other[1]), lot <= other_lot)
        for members in all_lots(range(min(len(world.copies), 4)))[1:]:
            together, union = 0, set()
            for member in members:
                together = joined(together, world.copies[member][0][1])
                union |= world.copies[member][1]
            for stamp, lot in world.copies:
                self.assertIs(is_within(stamp[1], together), lot <= union)

    def test_it_may_then_for_ever(self):
        takings = 0
        for seed in range(60):
            history, _ = some_history(seed + 77, 8 + seed % 20, NAMES, 6)
            world = World(history)
            chance = Chance(seed)
            for _ in range(25):
                ahead = lost_share(world.crew())
                self.assertTrue(world.go_on(chance))
                takings += ahead != lost_share(world.crew()) and ahead != 0
                self.look(world)
        self.assertGreater(takings, 100)


class G2(unittest.TestCase):

    def test_it_may_not_then_not(self):
        seen = 0
        for seed in range(150):
            history, _ = some_history(seed + 9, 12 + seed % 24, NAMES + ("lose",), 5)
            crew = crew_of(history)
            for path in owned_paths(lost_share(crew)):
                for member, other in product(range(len(crew)), repeat=2):
                    own, counts = crew[member][1], crew[other][1]
                    if worth_at(counts, path)[0] > worth_at(own, path)[1]:
                        seen += 1
                        self.assertIs(may_take(crew, member, united_paths([path])), False)
                        told = joined(counts, own)
                        behind = [raised(united_paths([path + (0,) * more]), own) for more in range(3)]
                        self.assertTrue(any(is_within(later, told) for later in behind))
        self.assertGreater(seen, 40)


class G3(unittest.TestCase):

    def test_who_has_heard_all_may_take_all(self):
        for seed in range(60):
            history, _ = some_history(seed + 31, 10 + seed % 30, NAMES, 6)
            crew = crew_of(history)
            lost = lost_share(crew)
            together = 0
            for _, counts in crew:
                together = joined(together, counts)
            for member, (share, _) in enumerate(crew):
                wise = crew[:member] + ((share, together),) + crew[member + 1:]
                self.assertIs(may_take(wise, member, lost), True)
                self.assertEqual(takeable(wise, member), lost)
                lot = hear_first(crew, member, lost)
                counts = crew[member][1]
                for other in lot:
                    counts = joined(counts, crew[other][1])
                self.assertIs(may_take(crew[:member] + ((share, counts),) + crew[member + 1:], member, lost), True)

    def test_what_two_may_take(self):
        for seed in range(40):
            history, _ = some_history(seed + 131, 10 + seed % 30, NAMES, 6)
            crew = crew_of(history)
            lost = cells(lost_share(crew), 6)
            tops = [max(worths) for worths in zip(*[[worth_at(counts, path)[0] for path in product((0, 1), repeat=6)]
                                                    for _, counts in crew])]
            for one, other in combinations(range(len(crew)), 2):
                both = [a & b for a, b in zip(cells(takeable(crew, one), 6), cells(takeable(crew, other), 6))]
                for at, path in enumerate(product((0, 1), repeat=6)):
                    top = all(worth_at(crew[member][1], path)[0] == tops[at] for member in (one, other))
                    self.assertEqual(both[at], int(lost[at] and top))


class G4(unittest.TestCase):

    def test_nothing_lost(self):
        for history, _ in some_histories()[::5]:
            if not any(step[0] == "lose" for step in history):
                crew = crew_of(history)
                self.assertEqual(lost_share(crew), 0)
                for member in range(len(crew)):
                    self.assertEqual(takeable(crew, member), 0)
                    self.assertIs(may_take(crew, member, 0), True)
                    self.assertIs(may_take(crew, member, 1), False)

    def test_all_taken_over(self):
        for seed in range(60):
            history, _ = some_history(seed + 31, 10 + seed % 30, NAMES, 6)
            crew = crew_of(history)
            crew = ((crew[0][0], 10 ** 9),) + crew[1:]
            crew = taken(crew, 0, lost_share(crew))
            self.assertEqual(lost_share(crew), 0)
            whole = 0
            for share, _ in crew:
                whole = united(whole, share)
            self.assertEqual(whole, 1)


if __name__ == "__main__":
    unittest.main()
