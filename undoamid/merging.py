"""Merging: what was done from a common base, put together."""

from undoamid.errors import Barred, Clash
from undoamid.rows import Row
from undoamid.versions import Version, barred_pair, difference, form_in, form_of, joint, piles_of


def laid(base, branch, onto):
    """What was done from the base to the branch, done behind another version."""
    return Version.of(onto.row + difference(base, branch))


def joined(base, one, *more):
    """The least version of which, seen from the base, all these versions are beginnings."""
    ways = [piles_of(difference(base, version)) for version in (one, *more)]
    top = ways[0]
    for at, way in enumerate(ways):
        found = joint(base.table, top, way)
        if found is None:
            # Where each two have one, all of them have one; so there is an earlier one that has none with this one.
            apart = [earlier for earlier in ways[:at] if joint(base.table, earlier, way) is None]
            first, second = barred_pair(base.table, apart[0], way)
            raise Barred(first, second)
        top = found
    return Version.of(base.row + Row(base.table, form_in(top)))


def together(base, one, other):
    """What was done from the base to both versions, one behind the other, if their order does not matter."""
    way, other_way = difference(base, one), difference(base, other)
    both = way + other_way
    if form_of(both) != form_of(other_way + way):
        raise Clash(Version.of(both + ~way + ~other_way))
    return Version.of(base.row + both)
