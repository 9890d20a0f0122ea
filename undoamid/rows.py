"""Rows: sequences of deeds, as they were told."""

from undoamid.errors import InvalidText, NoDeed, OtherTable
from undoamid.tables import require_kinds
from undoamid.words import number_of, text_of_number


def require_index(at, size):
    """Raise NoDeed for an integer that is not an index of so many items."""
    if not 0 <= at < size:
        raise NoDeed(at)


def require_same_table(one, other):
    """Raise OtherTable unless two rows or versions are over equal tables."""
    if one.table != other.table:
        raise OtherTable()


def text_of_syllable(kind, count):
    """The text of a syllable."""
    if count == 1:
        return kind
    return f"{kind}^{text_of_number(count)}"


def syllable_of(table, word):
    """The syllable of the table of which this word is the text, or None."""
    kind, caret, digits = word.partition("^")
    if kind not in table.kinds:
        return None
    if not caret:
        return (kind, 1)
    count = number_of(digits)
    # The text of a syllable with count 1 is the kind alone.
    if count is None or count == 1:
        return None
    return (kind, count)


class Row:
    """A sequence of syllables over a table."""

    def __init__(self, table, syllables=()):
        require_kinds(table, [kind for kind, _ in syllables])
        self.table = table
        self.syllables = tuple(syllables)

    @classmethod
    def read(cls, table, text):
        """The row of a text; raises InvalidText with the index of the first wrong word."""
        if text == "-":
            return cls(table)
        syllables = []
        for at, word in enumerate(text.split(" ")):
            syllable = syllable_of(table, word)
            if syllable is None:
                raise InvalidText(at)
            syllables.append(syllable)
        return cls(table, syllables)

    @property
    def turns(self):
        """How often something is done or undone, in all."""
        return sum([abs(count) for _, count in self.syllables])

    def under(self, table):
        """The row of the same syllables over another table."""
        return Row(table, self.syllables)

    def without(self, at, *more):
        """The row without the syllables at these indexes."""
        gone = [at, *more]
        for index in gone:
            require_index(index, len(self.syllables))
        return Row(self.table, [syllable for k, syllable in enumerate(self.syllables) if k not in gone])

    def moved(self, at, to):
        """The row in which the syllable at one index stands at another one."""
        require_index(at, len(self.syllables))
        require_index(to, len(self.syllables))
        rest = [*self.syllables[:at], *self.syllables[at + 1:]]
        return Row(self.table, [*rest[:to], self.syllables[at], *rest[to:]])

    def __len__(self):
        return len(self.syllables)

    def __bool__(self):
        return bool(self.syllables)

    def __getitem__(self, at):
        require_index(at, len(self.syllables))
        return self.syllables[at]

    def __iter__(self):
        raise TypeError("a row is not iterated over, its syllables are")

    def __add__(self, other):
        require_same_table(self, other)
        return Row(self.table, [*self.syllables, *other.syllables])

    def __invert__(self):
        return Row(self.table, [(kind, -count) for kind, count in self.syllables[::-1]])

    def __eq__(self, other):
        return isinstance(other, Row) and self.table == other.table and self.syllables == other.syllables

    def __str__(self):
        if not self.syllables:
            return "-"
        return " ".join([text_of_syllable(kind, count) for kind, count in self.syllables])
