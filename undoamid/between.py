"""What lies between versions: distances, the middle of three, the nearest one, and all of them."""

from undoamid.shapes import sum_over_parts
from undoamid.tables import require_kinds
from undoamid.versions import Version, common, difference, form_of, held, layers_of


def distance(one, other):
    """The number of turns that lead from one version to another one."""
    return sum([abs(count) for _, count in form_of(difference(one, other))])


def is_between(version, one, other):
    """Whether a version lies on a shortest way from one version to another one."""
    return distance(one, version) + distance(version, other) == distance(one, other)


def moved_by(version, syllables):
    """The version to which these syllables lead."""
    return Version(version.table, [*version.syllables, *syllables])


def middle(one, other, third):
    """The version that is between each two of three versions."""
    ways = layers_of(difference(one, other))
    third_ways = layers_of(difference(one, third))
    return moved_by(one, common(one.table, ways, third_ways))


def nearest(version, base, kinds):
    """The version nearest to a version, of those that come from a base by some kinds alone."""
    form = form_of(difference(base, version))
    table = version.table
    require_kinds(table, kinds)
    gone = held(table, form, [kind for kind in table.kinds if kind not in kinds])
    return moved_by(base, [syllable for at, syllable in enumerate(form) if at not in gone])


def count_between(one, other, *, most=2000):
    """The number of versions between two versions."""
    form = form_of(difference(one, other))
    # A syllable next to a part may have been done any number of turns, but not all: then it is in the part.
    return sum_over_parts(one.table, [(kind, abs(count)) for kind, count in form], most)


def beginning(table, form, turns):
    """The beginning of a form that has so many turns of each kind, and the kinds that may have one turn more."""
    left = {kind: many for kind, many in turns}
    stopped = {}
    syllables = []
    growing = []
    for kind, count in form:
        many = min(left[kind], abs(count))
        left[kind] = left[kind] - many
        if many > 0:
            syllables.append((kind, many if count > 0 else -many))
        if many < abs(count):
            if kind not in stopped:
                growing.append(kind)
            for other in table.stops(kind):
                stopped[other] = True
    return tuple(syllables), growing


def with_turn(turns, kind):
    """The pairs of a kind and its number of turns, with one turn more for one kind."""
    return tuple([(name, many + 1 if name == kind else many) for name, many in turns])


def between(one, other):
    """Go through all versions between two versions, by their distance from the first one, then by form."""
    form = form_of(difference(one, other))
    level = [tuple([(kind, 0) for kind in sorted({kind for kind, _ in form})])]
    while level:
        items = sorted([(beginning(one.table, form, turns), turns) for turns in level])
        for (syllables, _), _ in items:
            yield moved_by(one, syllables)
        level = list({with_turn(turns, kind): True for (_, growing), turns in items for kind in growing})
