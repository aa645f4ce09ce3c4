"""As few sequences of all deeds as tell which deed knows which.

Which deed knows which is handed in as the list below of orders. A sequence is begun as a list above, which has for
each deed the mask of those that stand behind it in any case, and with each one all that stand behind this one.
"""

from heirstamps.cliques import greatest_clique
from heirstamps.lots import is_part, lot_of


def _above_of(below):
    """The list that has for each deed the mask of the deeds that know it."""
    deeds = range(len(below))
    return [sum([1 << other for other in deeds if below[other] >> deed & 1]) for deed in deeds]


def _pairs_to_turn(below):
    """The list of the tuples (deed, other) of deeds apart, of which the other one must come first in some sequence.

    Only those stand here for which this asks nothing of further deeds, since they bring all others about: where
    what the deed knows the other one knows, too, and what knows the other one knows the deed, too.
    """
    above = _above_of(below)
    found = []
    for deed in range(len(below)):
        tied = below[deed] | above[deed] | 1 << deed
        for other in range(len(below)):
            apart = not tied >> other & 1
            if apart and is_part(below[deed], below[other]) and is_part(above[other], above[deed]):
                found.append((deed, other))
    return found


def _rivals_of(below, pairs):
    """The list that has for each pair the mask of those that no sequence turns with it."""
    reach = [known | 1 << deed for deed, known in enumerate(below)]
    rivals = []
    for deed, other in pairs:
        both = [reach[other] >> pair[0] & 1 and reach[pair[1]] >> deed & 1 for pair in pairs]
        rivals.append(sum([1 << at for at, met in enumerate(both) if met]))
    return rivals


def _turned(above, pair):
    """The sequence that is begun as above, with the other one of the pair ahead of the deed, too."""
    deed, other = pair
    added = above[deed] | 1 << deed
    return [mask | added if at == other or mask >> other & 1 else mask for at, mask in enumerate(above)]


class RealizerSearch:
    """Looks for as many sequences as count tells, such that each of the pairs is turned in one of them."""

    def __init__(self, below, pairs, count):
        self.plain = _above_of(below)
        self.pairs = pairs
        self.count = count

    def found_from(self, sequences):
        """Sequences that go on from these, with all pairs turned; None if there are none."""
        pair, places = self.narrowest(sequences)
        if pair is None:
            return sequences
        for at in places:
            begun = sequences[at] if at < len(sequences) else self.plain
            found = self.found_from(sequences[:at] + [_turned(begun, pair)] + sequences[at + 1:])
            if found is not None:
                return found
        return None

    def narrowest(self, sequences):
        """Of the pairs that are turned nowhere one with the fewest places at which it can be, and these places.

        A place is the index of a sequence; that behind the last one is a sequence yet to be begun.
        """
        fresh = [len(sequences)] if len(sequences) < self.count else []
        best = (None, [])
        for pair in self.pairs:
            deed, other = pair
            if any([above[other] >> deed & 1 for above in sequences]):
                continue
            places = [at for at, above in enumerate(sequences) if not above[deed] >> other & 1] + fresh
            if best[0] is None or len(places) < len(best[1]):
                best = (pair, places)
        return best


def realizer_of(below):
    """As few lists of the places of all deeds as can be, such that just what a deed knows is ahead of it in all."""
    plain = _above_of(below)
    pairs = _pairs_to_turn(below)
    rivals = _rivals_of(below, pairs)
    # Pairs that are all rivals need a sequence each, so these can be begun at once.
    begun = [_turned(plain, pairs[at]) for at in greatest_clique(rivals)]
    if not begun:
        begun = [plain]
    pairs = [pairs[at] for _, at in sorted([(-len(lot_of(mask)), at) for at, mask in enumerate(rivals)])]
    count = len(begun)
    sequences = RealizerSearch(below, pairs, count).found_from(begun)
    while sequences is None:
        count += 1
        sequences = RealizerSearch(below, pairs, count).found_from(begun)
    return [_places_in(above) for above in sequences]


def _places_in(above):
    """The list that tells for each deed which place it has in the sequence that is begun so."""
    # Whoever stands ahead of another one has more behind it.
    row = sorted([(-len(lot_of(mask)), deed) for deed, mask in enumerate(above)])
    places = [0] * len(above)
    for place, (_, deed) in enumerate(row):
        places[deed] = place
    return places
