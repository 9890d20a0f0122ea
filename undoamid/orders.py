"""The orders of a version: its short rows."""

from math import comb

from undoamid.errors import NotShort, TooMany
from undoamid.rows import Row, require_index
from undoamid.shapes import Shape, grouped, kinds_of, next_of_parts


class Path:
    """An order as it is made: the indexes of the form that were picked, and what was next ahead of each pick."""

    def __init__(self, version):
        self._form = version.row
        self._shape = Shape(version.table, kinds_of(version.syllables))
        self._part = 0
        self._picks = []
        self._nexts = [self._shape.firsts]
        self._fill()

    def made(self):
        """The row of the order."""
        return Row(self._form.table, [self._form.syllables[at] for at in self._picks])

    def advance(self):
        """Go on to the next order, and return whether there is one."""
        while self._picks:
            at = self._picks.pop()
            self._nexts.pop()
            self._part = self._part ^ 1 << at
            above = [other for other in self._nexts[-1] if self._shape.kinds[other] > self._shape.kinds[at]]
            if above:
                self._pick(above[0])
                self._fill()
                return True
        return False

    def _fill(self):
        """Pick the least ones up to the end."""
        while self._nexts[-1]:
            self._pick(self._nexts[-1][0])

    def _pick(self, at):
        """Pick an index that is next."""
        self._nexts.append(self._shape.next_behind(self._part, self._nexts[-1], at))
        self._part = self._part | 1 << at
        self._picks.append(at)


def orders(version):
    """Go through the orders of a version, ascending by their kinds."""
    path = Path(version)
    going = True
    while going:
        yield path.made()
        going = path.advance()


class Strand:
    """The syllables of one group of kinds, and those of them that were taken for an order."""

    def __init__(self, table, syllables, most):
        self.syllables = syllables
        self.nexts = next_of_parts(Shape(table, kinds_of(syllables)), most)
        self.part = 0
        self.left = len(syllables)
        # In how many orders the rest can follow each part.
        self.ways = {}
        for part in reversed(list(self.nexts)):
            behind = [self.ways[part | 1 << at] for at in self.nexts[part]]
            self.ways[part] = sum(behind) if behind else 1


class Course:
    """The orders of a short row that begin with the syllables that were taken so far.

    Syllables of different groups do not hang on one another: the orders of a row are those of its groups,
    mixed in any way. So the numbers of the groups, which are small, tell that of the row.
    """

    def __init__(self, table, syllables, most):
        self.number = 1
        self._left = 0
        self._strands = []
        parts_so_far = 1
        for group in grouped(table, syllables):
            strand = Strand(table, group, most)
            parts_so_far = parts_so_far * len(strand.nexts)
            if parts_so_far > most:
                raise TooMany(most)
            self._strands.append(strand)
            self._left = self._left + strand.left
            self.number = self.number * comb(self._left, strand.left) * strand.ways[0]

    def choices(self):
        """What can be taken next, ascending by kind: the kind, its strand and the index there."""
        found = {}
        for strand in self._strands:
            for at in strand.nexts[strand.part]:
                kind, _ = strand.syllables[at]
                found[kind] = (strand, at)
        return [(kind, *found[kind]) for kind in sorted(found)]

    def number_with(self, strand, at):
        """The number of those orders in which this one is taken next."""
        ways = strand.ways[strand.part | 1 << at]
        # A strand comes next in as large a share of the mixtures as it has of the syllables that are left.
        return self.number * strand.left * ways // (self._left * strand.ways[strand.part])

    def take(self, strand, at):
        """Take the next syllable, and return it."""
        self.number = self.number_with(strand, at)
        self._left = self._left - 1
        strand.left = strand.left - 1
        strand.part = strand.part | 1 << at
        return strand.syllables[at]


def count_orders(version, *, most=2000):
    """The number of orders of a version."""
    return Course(version.table, version.syllables, most).number


def order_at(version, at, *, most=2000):
    """The order with an index."""
    course = Course(version.table, version.syllables, most)
    require_index(at, course.number)
    found = []
    for _ in version.syllables:
        for _, strand, place in course.choices():
            behind = course.number_with(strand, place)
            if at < behind:
                found.append(course.take(strand, place))
                break
            at = at - behind
    return Row(version.table, found)


def require_short(row):
    """Raise NotShort with the index of the first syllable up to which the row is not short."""
    # The kinds that came with nothing behind that they cannot pass: one more of these melts.
    bare = {}
    for at, (kind, count) in enumerate(row.syllables):
        if count == 0 or kind in bare:
            raise NotShort(at)
        for other in row.table.stops(kind):
            bare.pop(other, None)
        bare[kind] = True


def order_of(row, *, most=2000):
    """The index of a short row among the orders of its version."""
    require_short(row)
    course = Course(row.table, row.syllables, most)
    number = 0
    for kind, _ in row.syllables:
        for other, strand, at in course.choices():
            if other == kind:
                course.take(strand, at)
                break
            number = number + course.number_with(strand, at)
    return number
