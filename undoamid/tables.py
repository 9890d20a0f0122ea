"""Tables: the kinds of deeds, and which of them may change places."""

from undoamid.errors import InvalidTable, InvalidText, UnknownKind
from undoamid.words import is_name

MOST_KINDS = 12


def require_kinds(table, names):
    """Raise UnknownKind for the first of these strings that is not a kind of the table."""
    for name in names:
        if name not in table.kinds:
            raise UnknownKind(name)


def ascending(pair):
    """The tuple of two names in ascending order."""
    return tuple(sorted(pair))


def is_pair(pair, kinds):
    """Whether these are two different ones of the kinds."""
    return len(pair) == 2 and pair[0] != pair[1] and pair[0] in kinds and pair[1] in kinds


def check_kinds(kinds):
    """Raise InvalidTable for the first violation if these cannot be the kinds of a table."""
    if not 1 <= len(kinds) <= MOST_KINDS:
        raise InvalidTable("count", -1)
    for at, kind in enumerate(kinds):
        if not is_name(kind) or kind in kinds[:at]:
            raise InvalidTable("name", at)


def check_pairs(kinds, pairs):
    """Raise InvalidTable for the first of the pairs that does not consist of two different kinds."""
    for at, pair in enumerate(pairs):
        if not is_pair(pair, kinds):
            raise InvalidTable("pair", at)


def kinds_of_line(line):
    """The kinds that a line tells, or None if it is not a line of kinds."""
    word, *kinds = line.split(" ")
    if word != "kinds":
        return None
    try:
        check_kinds(kinds)
    except InvalidTable:
        return None
    return kinds


def pair_of_line(line, kinds):
    """The ascending pair of kinds that a line tells to be free, or None if it is not such a line."""
    word, *pair = line.split(" ")
    if word != "free" or not is_pair(pair, kinds):
        return None
    return ascending(pair)


def writes_into(one, other):
    """Whether the first of two (reads, writes) writes a cell that the second one reads or writes."""
    _, written = one
    used = {cell: True for cells in other for cell in cells}
    return any([cell in used for cell in written])


class Table:
    """Kinds of deeds; each two different ones are either free or barred."""

    def __init__(self, kinds, pairs=()):
        check_kinds(kinds)
        check_pairs(kinds, pairs)
        self.kinds = tuple(sorted(kinds))
        self.pairs = tuple(sorted({ascending(pair) for pair in pairs}))
        self._free = {pair: True for pair in self.pairs}
        self._stops = {one: self._not_free_with(one) for one in self.kinds}

    @classmethod
    def of_cells(cls, cells):
        """The table in which kinds are free if neither writes what the other one reads or writes."""
        kinds = sorted(cells)
        pairs = []
        for at, one in enumerate(kinds):
            for other in kinds[at + 1:]:
                if not writes_into(cells[one], cells[other]) and not writes_into(cells[other], cells[one]):
                    pairs.append((one, other))
        return cls(kinds, pairs)

    @classmethod
    def read(cls, text):
        """The table of a text; raises InvalidText with the index of the first wrong line."""
        first, *lines = text.split("\n")
        kinds = kinds_of_line(first)
        if kinds is None:
            raise InvalidText(0)
        pairs = []
        for at, line in enumerate(lines, start=1):
            pair = pair_of_line(line, kinds)
            if pair is None or pair in pairs:
                raise InvalidText(at)
            pairs.append(pair)
        return cls(kinds, pairs)

    def free(self, one, other):
        """Whether two kinds may change places."""
        require_kinds(self, (one, other))
        return (one, other) in self._free or (other, one) in self._free

    def barred(self, one, other):
        """Whether two kinds are different and may not change places."""
        return not self.free(one, other) and one != other

    def stops(self, kind):
        """The ascending tuple of the kinds that a kind of the table cannot pass: itself and those barred with it."""
        return self._stops[kind]

    def with_pair(self, one, other):
        """The table in which these two kinds are free."""
        self._require_pair(one, other)
        return Table(self.kinds, [*self.pairs, (one, other)])

    def without_pair(self, one, other):
        """The table in which these two kinds are barred."""
        self._require_pair(one, other)
        gone = ascending((one, other))
        return Table(self.kinds, [pair for pair in self.pairs if pair != gone])

    def within(self, other):
        """Whether the other table has the same kinds, and all pairs free that are free in this one."""
        return self.kinds == other.kinds and all([pair in other.pairs for pair in self.pairs])

    def groups(self, kinds):
        """The groups of these kinds: kinds in one group are joined by a chain of barred ones."""
        require_kinds(self, kinds)
        left = sorted(kinds)
        found = []
        while left:
            group = self._chained(left[0], left)
            found.append(group)
            left = [kind for kind in left if kind not in group]
        return tuple(found)

    def _chained(self, start, kinds):
        """The ascending tuple of those of the kinds to which a chain leads from the first one."""
        reached = {start: True}
        waiting = [start]
        while waiting:
            one = waiting.pop()
            for other in kinds:
                if other not in reached and self.barred(one, other):
                    reached[other] = True
                    waiting.append(other)
        return tuple(sorted(reached))

    def _not_free_with(self, one):
        """The ascending tuple of the kinds that are not free with a kind."""
        return tuple([other for other in self.kinds if ascending((one, other)) not in self._free])

    def _require_pair(self, one, other):
        """Raise the errors for what is not two different kinds."""
        require_kinds(self, (one, other))
        if one == other:
            raise InvalidTable("pair", 0)

    def __len__(self):
        return len(self.kinds)

    def __contains__(self, name):
        return name in self.kinds

    def __eq__(self, other):
        return isinstance(other, Table) and self.kinds == other.kinds and self.pairs == other.pairs

    def __str__(self):
        lines = [["kinds", *self.kinds], *[["free", *pair] for pair in self.pairs]]
        return "\n".join([" ".join(line) for line in lines])

    def __repr__(self):
        return f"Table({len(self.kinds)} kinds, {len(self.pairs)} pairs)"
