"""Merging: what was done from a common base, put together."""

from undoamid.errors import Clash
from undoamid.versions import Version, difference, form_of, joint


def laid(base, branch, onto):
    """What was done from the base to the branch, done behind another version."""
    return Version.of(onto.row + difference(base, branch))


def joined(base, one, *more):
    """The least version of which, seen from the base, all these versions are beginnings."""
    ways = [difference(base, version) for version in (one, *more)]
    for at, way in enumerate(ways):
        for earlier in ways[:at]:
            # Raises Barred for the first two that have none; where each two have one, all of them have one.
            joint(earlier, way)
    top = ways[0]
    for way in ways[1:]:
        top = joint(top, way)
    return Version.of(base.row + top)


def together(base, one, other):
    """What was done from the base to both versions, one behind the other, if their order does not matter."""
    way, other_way = difference(base, one), difference(base, other)
    both = way + other_way
    if form_of(both) != form_of(other_way + way):
        raise Clash(Version.of(both + ~way + ~other_way))
    return Version.of(base.row + both)
