"""Versions: what rows do, whatever they are called."""

from undoamid.errors import Barred, OtherTable, TooMany
from undoamid.rows import Row, require_index, require_same_table
from undoamid.tables import require_kinds

LIMIT = 1000


def piles_of(row):
    """For each kind the (layer, count) of the syllables that are left of a row when all that can melt has melted."""
    piles = {kind: [] for kind in row.table.kinds}
    # For each kind the layer above that of its topmost syllable.
    heights = {kind: 0 for kind in row.table.kinds}
    for kind, count in row.syllables:
        layer = max([heights[other] for other in row.table.stops(kind)])
        total = count
        # A syllable that comes to lie on one of its own kind melts with it, and nothing lies on that one.
        if piles[kind] and heights[kind] == layer:
            layer, above = piles[kind].pop()
            total = count + above
        if total != 0:
            piles[kind].append((layer, total))
        heights[kind] = piles[kind][-1][0] + 1 if piles[kind] else 0
    return piles


def layers_in(piles):
    """The layers of the form of which these are the piles."""
    layers = [[] for _ in range(max([pile[-1][0] + 1 for pile in piles.values() if pile], default=0))]
    for kind in sorted(piles):
        for at, count in piles[kind]:
            layers[at].append((kind, count))
    return tuple([tuple(layer) for layer in layers])


def form_in(piles):
    """The syllables of the form of which these are the piles."""
    return tuple([syllable for layer in layers_in(piles) for syllable in layer])


def layers_of(row):
    """The layers of the form of a row's version, however many syllables it has."""
    return layers_in(piles_of(row))


def form_of(row):
    """The syllables of the form of a row's version, however many they are."""
    return form_in(piles_of(row))


def difference(one, other):
    """The row of ~one * other; it may be longer than a version may be."""
    return ~one.row + other.row


def held(table, syllables, kinds):
    """The indexes of the syllables of a short row that cannot pass deeds of these kinds ahead of it."""
    stopped = {kind: True for kind in kinds}
    found = []
    for at, (kind, _) in enumerate(syllables):
        if kind in stopped:
            found.append(at)
            for other in table.stops(kind):
                stopped[other] = True
    return found


def last_of(table, syllables):
    """The ascending tuple of the syllables of a short row on which none hangs."""
    stopped = {}
    found = []
    for kind, count in syllables[::-1]:
        if kind not in stopped:
            found.append((kind, count))
        for other in table.stops(kind):
            stopped[other] = True
    return tuple(sorted(found))


def shared_count(one, other):
    """The turns that two counts have in common, with their sign; none if the signs differ."""
    if one > 0 and other > 0:
        return min(one, other)
    if one < 0 and other < 0:
        return max(one, other)
    return 0


def common(table, layers, others):
    """The syllables of the greatest common beginning of two versions that have these layers."""
    # What both begin with is at the same layer in both.
    stopped = {}
    found = []
    for layer, other_layer in zip(layers, others):
        here = dict(layer)
        there = dict(other_layer)
        for kind in sorted({kind for kind, _ in [*layer, *other_layer]}):
            one, other = here.get(kind, 0), there.get(kind, 0)
            count = 0 if kind in stopped else shared_count(one, other)
            if count != 0:
                found.append((kind, count))
            if count != one or count != other:
                for behind in table.stops(kind):
                    stopped[behind] = True
    return found


def layer_of_more(pile, other):
    """The layer from which on a pile has more than another one of its kind, or None if it is not that one and more."""
    if pile[:len(other)] == other:
        return pile[len(other)][0] if len(pile) > len(other) else None
    # Of the topmost syllable there may be more turns.
    at = len(other) - 1
    if len(pile) < len(other) or pile[:at] != other[:at]:
        return None
    layer, count = pile[at]
    top, less = other[at]
    return layer if layer == top and shared_count(count, less) == less else None


def goes_on(table, piles, others, kind):
    """Whether what a version has more of a kind than another one can be done behind that one."""
    layer = layer_of_more(piles[kind], others[kind])
    # What lies as high in the other version, or higher, and is barred with the kind would stand in its way.
    barred = [others[stop] for stop in table.stops(kind) if stop != kind and others[stop]]
    return layer is not None and all([pile[-1][0] < layer for pile in barred])


def joint(table, piles, others):
    """The piles of the least version of which two with these piles are beginnings, or None if there is none."""
    found = {}
    # A beginning has its syllables in the same layers; so kind by kind, one pile must be the other one and more.
    for kind in table.kinds:
        if piles[kind] == others[kind] or goes_on(table, piles, others, kind):
            found[kind] = piles[kind]
        elif goes_on(table, others, piles, kind):
            found[kind] = others[kind]
        else:
            return None
    return found


def barred_pair(table, piles, others):
    """The two syllables that tell why two versions with these piles are not beginnings of a common one."""
    beginning = common(table, layers_in(piles), layers_in(others))
    back = ~Row(table, beginning)
    rest = form_of(back + Row(table, form_in(piles)))
    other_rest = form_of(back + Row(table, form_in(others)))
    stopped = [stop for kind, _ in other_rest for stop in table.stops(kind)]
    one = rest[held(table, rest, stopped)[0]]
    return one, other_rest[held(table, other_rest, table.stops(one[0]))[0]]


def first_of_two(version):
    """The first syllables of a version for whose kinds another syllable is a last one."""
    kinds = [kind for kind, _ in version.syllables]
    lasts = [kind for kind, _ in version.last]
    firsts = [syllable for layer in version.layers[:1] for syllable in layer]
    return [syllable for syllable in firsts if syllable[0] in lasts and kinds.count(syllable[0]) > 1]


def turned_round(version):
    """A lead and a round version such that the version is lead * round * ~lead."""
    lead = version & ~version
    inner = ~lead * version * lead
    # Where turns of a kind are left at both ends, those of the front go to the end.
    more = Version(version.table, first_of_two(inner))
    return lead * more, ~more * inner * more


class Version:
    """All rows that always do the same, told by their form."""

    def __init__(self, table, syllables=()):
        row = Row(table, syllables)
        layers = layers_of(row)
        form = [syllable for layer in layers for syllable in layer]
        if len(form) > LIMIT:
            raise TooMany(LIMIT)
        self.table = table
        self.syllables = tuple(form)
        self.layers = layers
        self.kinds = tuple(sorted({kind for kind, _ in form}))
        self.row = Row(table, form)
        self.last = last_of(table, form)

    @classmethod
    def of(cls, row):
        """The version of a row."""
        return cls(row.table, row.syllables)

    @property
    def turns(self):
        """How often something is done or undone in the form, in all."""
        return self.row.turns

    def hangs(self, at, on):
        """Whether the syllable of the form at one index hangs on that at another one."""
        require_index(at, len(self.syllables))
        require_index(on, len(self.syllables))
        kind, _ = self.syllables[on]
        return at - on - 1 in held(self.table, self.syllables[on + 1:], self.table.stops(kind))

    def only(self, *kinds):
        """The version without the syllables of all other kinds."""
        require_kinds(self.table, kinds)
        return Version(self.table, [syllable for syllable in self.syllables if syllable[0] in kinds])

    def without(self, *kinds):
        """The version without the syllables of these kinds."""
        require_kinds(self.table, kinds)
        return Version(self.table, [syllable for syllable in self.syllables if syllable[0] not in kinds])

    def under(self, table):
        """The version of the form over another table with the same kinds."""
        if self.table.kinds != table.kinds:
            raise OtherTable()
        return Version(table, self.syllables)

    def begins(self, other):
        """Whether this version is a beginning of another one."""
        return (self & other).syllables == self.syllables

    def power(self, exponent):
        """The product of so many factors; of the undone version for a negative exponent."""
        lead, turned = turned_round(self if exponent > 0 else ~self)
        times = abs(exponent)
        alone = [group[0] for group in self.table.groups(turned.kinds) if len(group) == 1]
        fixed = [(kind, count * times) for kind, count in turned.syllables if kind in alone]
        repeated = [syllable for syllable in turned.syllables if syllable[0] not in alone]
        # Nothing melts between the factors of a round version, and what is ahead and behind takes away
        # no more syllables than it has.
        if len(repeated) * times > LIMIT + 2 * len(lead):
            raise TooMany(LIMIT)
        middle = repeated * times
        back = ~lead
        return Version(self.table, [*lead.syllables, *fixed, *middle, *back.syllables])

    def __len__(self):
        return len(self.syllables)

    def __bool__(self):
        return bool(self.syllables)

    def __mul__(self, other):
        return Version.of(self.row + other.row)

    def __invert__(self):
        return Version.of(~self.row)

    def __and__(self, other):
        require_same_table(self, other)
        return Version(self.table, common(self.table, self.layers, other.layers))

    def __or__(self, other):
        require_same_table(self, other)
        piles, others = piles_of(self.row), piles_of(other.row)
        found = joint(self.table, piles, others)
        if found is None:
            first, second = barred_pair(self.table, piles, others)
            raise Barred(first, second)
        return Version(self.table, form_in(found))

    def __eq__(self, other):
        return isinstance(other, Version) and self.table == other.table and self.syllables == other.syllables

    def __str__(self):
        return str(self.row)
