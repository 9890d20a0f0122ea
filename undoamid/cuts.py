"""Cuts: parts of a version, told by how many syllables of each kind they have."""

from undoamid.errors import TooMany


class Shape:
    """How the syllables of a short row hang on one another, kind by kind.

    A cut is a tuple with the number of syllables for each kind of the row. These are always the first
    ones of the kind, as each syllable hangs on the earlier ones of its kind.
    """

    def __init__(self, table, syllables):
        self.kinds = tuple(sorted({kind for kind, _ in syllables}))
        self.empty = tuple([0 for _ in self.kinds])
        self.places = [[] for _ in self.kinds]
        self.needs = [[] for _ in self.kinds]
        for at, (kind, _) in enumerate(syllables):
            which = self.kinds.index(kind)
            stops = [k for k, other in enumerate(self.kinds) if other in table.stops(kind)]
            self.needs[which].append([(k, len(self.places[k])) for k in stops])
            self.places[which].append(at)

    def next_to(self, cut):
        """The numbers of the kinds whose next syllable is next to a cut, ascending."""
        return [which for which in range(len(self.kinds)) if self._is_next(cut, which)]

    def _is_next(self, cut, which):
        """Whether the next syllable of a kind hangs only on syllables of the cut."""
        needs = self.needs[which]
        return cut[which] < len(needs) and all([cut[k] >= many for k, many in needs[cut[which]]])

    def place_of(self, cut, which):
        """The index in the row of the next syllable of a kind."""
        return self.places[which][cut[which]]

    def larger(self, level):
        """All cuts that have one syllable more than one of these."""
        return list({grown(cut, which): True for cut in level for which in self.next_to(cut)})


def grown(cut, which):
    """The cut with one more syllable of a kind."""
    return (*cut[:which], cut[which] + 1, *cut[which + 1:])


def shrunk(cut, which):
    """The cut with one syllable of a kind less."""
    return (*cut[:which], cut[which] - 1, *cut[which + 1:])


def levels(shape, most):
    """The lists of all cuts by size; raises TooMany if there are more than so many cuts."""
    found = []
    number = 0
    level = [shape.empty]
    while level:
        number = number + len(level)
        if number > most:
            raise TooMany(most)
        found.append(level)
        level = shape.larger(level)
    return found


def ways_to_end(shape, most):
    """A dict from each cut to the number of orders in which the other syllables can follow it."""
    ways = {}
    for level in levels(shape, most)[::-1]:
        for cut in level:
            # Behind the whole form nothing follows, in one way.
            ways[cut] = max(1, sum([ways[grown(cut, which)] for which in shape.next_to(cut)]))
    return ways
