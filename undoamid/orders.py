"""The orders of a version: its short rows."""

from undoamid.cuts import Shape, grown, shrunk, ways_to_end
from undoamid.errors import NotShort
from undoamid.rows import Row, require_index


def shape_of(version):
    """The shape of a version's form."""
    return Shape(version.table, version.syllables)


def row_of(version, shape, picks):
    """The row with the syllables of the form in the order in which their kinds are picked."""
    cut = shape.empty
    syllables = []
    for which in picks:
        syllables.append(version.syllables[shape.place_of(cut, which)])
        cut = grown(cut, which)
    return Row(version.table, syllables)


def least_end(shape, cut):
    """The least picks that lead from a cut to the whole form."""
    picks = []
    ways = shape.next_to(cut)
    while ways:
        picks.append(ways[0])
        cut = grown(cut, ways[0])
        ways = shape.next_to(cut)
    return picks


def following(shape, picks):
    """The least picks of a whole order above these, or None if there are none."""
    cut = tuple([len(places) for places in shape.places])
    for at in reversed(range(len(picks))):
        cut = shrunk(cut, picks[at])
        above = [which for which in shape.next_to(cut) if which > picks[at]]
        if above:
            return [*picks[:at], above[0], *least_end(shape, grown(cut, above[0]))]
    return None


def orders(version):
    """Go through the orders of a version, ascending by their kinds."""
    shape = shape_of(version)
    picks = least_end(shape, shape.empty)
    while picks is not None:
        yield row_of(version, shape, picks)
        picks = following(shape, picks)


def count_orders(version, *, most=2000):
    """The number of orders of a version."""
    shape = shape_of(version)
    return ways_to_end(shape, most)[shape.empty]


def order_at(version, at, *, most=2000):
    """The order with an index."""
    shape = shape_of(version)
    ways = ways_to_end(shape, most)
    require_index(at, ways[shape.empty])
    cut = shape.empty
    picks = []
    for _ in version.syllables:
        for which in shape.next_to(cut):
            behind = ways[grown(cut, which)]
            if at < behind:
                break
            at = at - behind
        picks.append(which)
        cut = grown(cut, which)
    return row_of(version, shape, picks)


def require_short(row):
    """Raise NotShort with the index of the first syllable up to which the row is not short."""
    # The kinds that came with nothing behind that they cannot pass: one more of these melts.
    bare = {}
    for at, (kind, count) in enumerate(row.syllables):
        if count == 0 or kind in bare:
            raise NotShort(at)
        for other in row.table.stops(kind):
            bare.pop(other, None)
        bare[kind] = True


def order_of(row, *, most=2000):
    """The index of a short row among the orders of its version."""
    require_short(row)
    shape = Shape(row.table, row.syllables)
    ways = ways_to_end(shape, most)
    cut = shape.empty
    number = 0
    for kind, _ in row.syllables:
        which = shape.kinds.index(kind)
        number = number + sum([ways[grown(cut, less)] for less in shape.next_to(cut) if less < which])
        cut = grown(cut, which)
    return number
