"""Shapes: how the syllables of a short row hang on one another, and the parts that this leaves.

A part is told by an integer: the bit at an index is set if the syllable at this index belongs to the part.
"""

from undoamid.errors import TooMany


def kinds_of(syllables):
    """The kinds of syllables, one for each, in their order."""
    return [kind for kind, _ in syllables]


def grouped(table, pairs):
    """The pairs of a kind and something else, divided by the groups of the kinds, each in their order."""
    groups = table.groups(sorted(set(kinds_of(pairs))))
    return [tuple([pair for pair in pairs if pair[0] in group]) for group in groups]


class Shape:
    """How the syllables of a short row of these kinds hang on one another."""

    def __init__(self, table, kinds):
        self.kinds = kinds
        # Whatever a syllable hangs on, it does so through the latest ones of the kinds that it cannot pass.
        self._needs = []
        self._behind = [[] for _ in kinds]
        latest = {}
        for at, kind in enumerate(kinds):
            ahead = [latest[other] for other in table.stops(kind) if other in latest]
            self._needs.append(sum([1 << index for index in ahead]))
            for index in ahead:
                self._behind[index].append(at)
            latest[kind] = at
        self.firsts = self._by_kind([at for at, need in enumerate(self._needs) if need == 0])

    def next_behind(self, part, nexts, at):
        """The indexes next to a part with one more syllable, by kind, from those next to the part."""
        grown = part | 1 << at
        new = [index for index in self._behind[at] if self._needs[index] & grown == self._needs[index]]
        left = [index for index in nexts if index != at]
        return self._by_kind([*left, *new]) if new else left

    def _by_kind(self, indexes):
        """The indexes, ascending by the kinds of their syllables."""
        return sorted(indexes, key=lambda index: self.kinds[index])


def next_of_parts(shape, most):
    """A dict from each part to the indexes next to it, smaller parts first; raises TooMany beyond so many parts."""
    found = {0: shape.firsts}
    level = [0]
    while level:
        larger = []
        for part in level:
            nexts = found[part]
            for at in nexts:
                grown = part | 1 << at
                if grown not in found:
                    found[grown] = shape.next_behind(part, nexts, at)
                    larger.append(grown)
        if len(found) > most:
            raise TooMany(most)
        level = larger
    return found


def multiplied(numbers):
    """The product of some integers."""
    total = 1
    for number in numbers:
        total = total * number
    return total


def sum_over_parts(table, weighted, most):
    """The sum, over all parts, of the product of the weights next to the part.

    The syllables of a short row are given as pairs of a kind and a weight. Raises TooMany if there are
    more parts than most.
    """
    total = 1
    many = 1
    # A part is made of parts of the groups, each with each; so numbers and sums multiply.
    for group in grouped(table, weighted):
        nexts = next_of_parts(Shape(table, kinds_of(group)), most)
        many = many * len(nexts)
        if many > most:
            raise TooMany(most)
        total = total * sum([multiplied([group[at][1] for at in some]) for some in nexts.values()])
    return total
