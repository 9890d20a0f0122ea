"""What several test files use."""

import unittest

from undoamid.tables import Table
from undoamid.versions import Version

KINDS = list("abcdefghijkl")
ABC = Table(["a", "b", "c"], [("a", "b")])
FREE = Table(KINDS, [(one, other) for one in KINDS for other in KINDS if one < other])
BARRED = Table(KINDS)
ONE = Table(["a"])
# Each kind is barred with its partner alone: a with b, c with d, and so on.
PARTNERS = Table(KINDS, [
    (one, other) for one in KINDS for other in KINDS
    if one < other and KINDS.index(one) // 2 != KINDS.index(other) // 2
])
# Each kind is barred with the one before and the one behind it alone: a with b, b with c, and so on.
PATH = Table(KINDS, [(one, other) for at, one in enumerate(KINDS) for other in KINDS[at + 2:]])
# Five pairs of partners and k, held together in one group by l, which is barred with all.
HELD = Table(KINDS, [pair for pair in PARTNERS.pairs if "l" not in pair])
TURNED = Table(["b", "c", "a"], [("b", "a")])
OTHER = Table(["a", "b", "c"], [("a", "c")])
WIDER = Table(["a", "b", "c", "d"], [("a", "b")])
GREAT = 10 ** 40 - 1


def version(text, table=ABC):
    """The version of a row that is told by its text."""
    return Version(table, row_of(text))


def row_of(text):
    """The syllables of a text, read without the package."""
    found = []
    for word in text.split() if text != "-" else []:
        kind, _, count = word.partition("^")
        found.append((kind, int(count or "1")))
    return found


def alternating(one, other, size, count=1):
    """Syllables of two kinds by turns."""
    return [((one, other)[at % 2], count) for at in range(size)]


class Raising(unittest.TestCase):
    def assert_error(self, error, told, work, *arguments, **named):
        """That a call raises exactly this error with these constructor arguments, by attribute."""
        with self.assertRaises(error) as caught:
            work(*arguments, **named)
        self.assertIs(type(caught.exception), error)
        self.assertEqual(vars(caught.exception), told)
