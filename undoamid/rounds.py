"""Round versions: what stays of a version when it is turned, its root, and what can be exchanged with it."""

from math import gcd

from undoamid.rows import Row, require_same_table
from undoamid.shapes import grouped, kinds_of
from undoamid.versions import Version, first_of_two, form_of, held, turned_round


def is_round(version):
    """Whether no kind has a first and a last syllable that are two different ones."""
    return not first_of_two(version)


def conjugated(lead, middle):
    """The version lead * middle * ~lead for a version and some syllables."""
    back = ~lead
    return Version(lead.table, [*lead.syllables, *middle, *back.syllables])


def divisor_of_all(numbers):
    """The greatest common divisor of some integers."""
    found = 0
    for number in numbers:
        found = gcd(found, number)
    return found


# Below, the share of a group is told by the syllables of its form.


def first_copy(share, power):
    """The first ones of the syllables of each kind: the root, if the share is this power of something."""
    kinds = kinds_of(share)
    left = {kind: kinds.count(kind) // power for kind in kinds}
    found = []
    for kind, count in share:
        if left[kind] > 0:
            found.append((kind, count))
            left[kind] = left[kind] - 1
    return found


def share_root(table, share):
    """The root of a share of a round version, and its power."""
    if len(share) == 1:
        kind, count = share[0]
        return [(kind, 1 if count > 0 else -1)], abs(count)
    kinds = kinds_of(share)
    most = divisor_of_all([kinds.count(kind) for kind in kinds])
    for power in range(most, 1, -1):
        root_share = first_copy(share, power)
        if most % power == 0 and form_of(Row(table, root_share * power)) == share:
            return root_share, power
    return list(share), 1


def share_power(root_share, power):
    """The syllables of a power, above 0, of the root of a share."""
    if len(root_share) == 1:
        kind, count = root_share[0]
        return [(kind, count * power)]
    return root_share * power


def root_and_power(version):
    """The root of a version and its power."""
    lead, inner = turned_round(version)
    found = [share_root(version.table, share) for share in grouped(version.table, inner.syllables)]
    power = divisor_of_all([times for _, times in found])
    middle = [one for share, times in found for one in share_power(share, times // power)]
    return conjugated(lead, middle), power


def root(version):
    """The version with the greatest power that is this version, and this power; 0 for the empty version."""
    return root_and_power(version)


def exponent(base, version):
    """The integer k such that the version is the power k of the base, or None."""
    require_same_table(base, version)
    if not version:
        return 0
    if not base:
        return None
    one, times = root_and_power(base)
    other, many = root_and_power(version)
    if many % times != 0:
        return None
    if one == other:
        return many // times
    return -(many // times) if ~one == other else None


def peak(table, syllables, kind):
    """A share turned until all hangs on its first syllable of a kind: what was turned, and the share."""
    turned = []
    rest = list(syllables)
    fixed = held(table, rest, [kind])
    while len(fixed) < len(rest):
        loose = [one for at, one in enumerate(rest) if at not in fixed]
        turned = [*turned, *loose]
        rest = [*[rest[at] for at in fixed], *loose]
        fixed = held(table, rest, [kind])
    return turned, rest


def best_peak(table, share):
    """The share of [35] to which a share of a round version can be turned, behind what is turned for it."""
    kind = min(kinds_of(share))
    turned, rest = peak(table, share, kind)
    leads, forms = [], []
    for _ in range(kinds_of(share).count(kind)):
        leads.append(turned)
        forms.append(form_of(Row(table, rest)))
        # When its first syllable is turned, too, the next one of its kind comes to the front.
        more, following = peak(table, [*rest[1:], rest[0]], kind)
        turned = [*turned, rest[0], *more]
        rest = following
    best = forms.index(min(forms))
    return leads[best], forms[best]


def settled(version):
    """A lead to some round version; for each of its shares what is to be turned, and the share of [35]."""
    lead, inner = turned_round(version)
    return lead, [best_peak(version.table, share) for share in grouped(version.table, inner.syllables)]


def shortest(table, ahead, share, behind):
    """The shortest row that leads as these syllables do, with any power of the root of the share in their midst."""
    base = Row(table, share_root(table, share)[0])
    end = Row(table, behind)
    best = form_of(Row(table, ahead) + end)
    # Power by power the lengths first fall and then rise; so the first one that is not shorter ends the search.
    for step in (base, ~base):
        start = Row(table, ahead) + step
        way = form_of(start + end)
        while len(way) < len(best):
            best = way
            start = start + step
            way = form_of(start + end)
    return best


def round_form(version):
    """A lead, and the round version to which it leads."""
    lead, shares = settled(version)
    ways = [one for turned, share in shares for one in shortest(version.table, turned, share, [])]
    middle = [one for _, share in shares for one in share]
    return Version(version.table, [*lead.syllables, *ways]), Version(version.table, middle)


def lead_between(one, other):
    """A version x such that ~x * one * x is the other version, or None."""
    require_same_table(one, other)
    lead, shares = settled(one)
    other_lead, other_shares = settled(other)
    if [share for _, share in shares] != [share for _, share in other_shares]:
        return None
    ways = []
    for (turned, share), (other_turned, _) in zip(shares, other_shares):
        back = ~Row(one.table, other_turned)
        ways.extend(shortest(one.table, turned, share, back.syllables))
    end = ~other_lead
    return Version(one.table, [*lead.syllables, *ways, *end.syllables])


def exchangeable(one, other):
    """Whether the products of two versions in both orders are equal."""
    return form_of(one.row + other.row) == form_of(other.row + one.row)


def roots_of_shares(version):
    """The roots of the shares of a round version, in the order of its groups."""
    shares = grouped(version.table, version.syllables)
    return tuple([Version(version.table, share_root(version.table, share)[0]) for share in shares])


def kinds_beside(version):
    """The ascending tuple of the kinds that are free with all kinds of a version."""
    table = version.table
    return tuple([kind for kind in table.kinds if all([table.free(kind, other) for other in version.kinds])])


def exchanging(version):
    """What describes all versions that can be exchanged with a version: lead, roots and kinds."""
    lead, turned = round_form(version)
    return lead, roots_of_shares(turned), kinds_beside(turned)
