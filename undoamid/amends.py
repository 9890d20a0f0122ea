"""Amends: what must be undone and done again when a row is changed."""

from undoamid.rows import Row, require_index
from undoamid.versions import Version, difference, form_of, held


def amends_between(one, other):
    """The version that leads from one version to another one."""
    return Version.of(difference(one, other))


def hanging(row, at):
    """The syllables that hang on the syllable at an index."""
    kind, count = row[at]
    if count == 0:
        return ()
    form = form_of(Row(row.table, row.syllables[at + 1:]))
    barred = [other for other in row.table.stops(kind) if other != kind]
    found = [form[place] for place in held(row.table, form, barred)]
    return form_of(Row(row.table, found))


def amends(row, at, *more):
    """The version that leads from a row to the row without the syllables at these indexes."""
    return Version.of(~row + row.without(at, *more))


def chain(row, at, index):
    """Kinds that show why a hanging syllable hangs on a deed, as few as possible."""
    found = hanging(row, at)
    require_index(index, len(found))
    deed, _ = row[at]
    # The shortest chains so far to a syllable of each kind. A later syllable of a kind never needs a longer
    # one, as what stands ahead of the earlier ones stands ahead of it, too.
    chains = {}
    for kind, _ in found[:index]:
        chains[kind] = chain_to(row.table, deed, kind, chains)
    return chain_to(row.table, deed, found[index][0], chains)


def chain_to(table, deed, kind, chains):
    """The shortest chain from a deed to a syllable of a kind that stands behind these chains."""
    if table.barred(deed, kind):
        return (deed, kind)
    shortest = min([chains[other] for other in table.stops(kind) if other in chains], key=len)
    return (*shortest, kind)


def moving(row, at, to):
    """The version that leads from a row to the row in which a syllable is moved to another index."""
    return Version.of(~row + row.moved(at, to))
