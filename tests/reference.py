"""A slow second way to work out what DOC.md says, turn by turn, for the tests to compare with.

A word is a tuple of turns (kind, sign). Nothing here calls the package but for the kinds and pairs of a
table; so a fault of the package cannot hide in here as well.
"""

import itertools
import random

NAMES = "abcdefghijkl"


def passes(table, one, other):
    """Whether two kinds may change places, by the pairs of the table."""
    return (one, other) in table.pairs or (other, one) in table.pairs


def turns_of(syllables):
    """The word of a row."""
    return tuple((kind, 1 if count > 0 else -1) for kind, count in syllables for _ in range(abs(count)))


def undone(word):
    return tuple((kind, -sign) for kind, sign in reversed(word))


def cancelled(table, word):
    """The word without turns that undo each other, as long as there are any."""
    for end, (kind, sign) in enumerate(word):
        for start in range(end - 1, -1, -1):
            if word[start] == (kind, -sign):
                return cancelled(table, word[:start] + word[start + 1:end] + word[end + 1:])
            if not passes(table, word[start][0], kind):
                break
    return word


def fronts(table, word):
    """The indexes of the turns that can be brought to the front."""
    return [
        at for at, (kind, _) in enumerate(word)
        if all(passes(table, kind, other) for other, _ in word[:at])
    ]


def normal(table, word):
    """One word for all words that do the same: the least one without turns that undo each other."""
    left, found = cancelled(table, tuple(word)), []
    while left:
        at = min(fronts(table, left), key=lambda k: left[k])
        found.append(left[at])
        left = left[:at] + left[at + 1:]
    return tuple(found)


def word_of(version):
    """The normal word of what has a table and syllables."""
    return normal(version.table, turns_of(version.syllables))


def times(table, *words):
    return normal(table, [turn for word in words for turn in word])


def apart(table, one, other):
    """The distance of [10]."""
    return len(times(table, undone(one), other))


def short_row(table, word):
    """Some short row of a word without turns that undo each other: each syllable as great as can be."""
    left, row = tuple(word), []
    while left:
        kind, sign = left[0]
        taken = [at for at in fronts(table, left) if left[at] == left[0]]
        # All fronts of a kind are its first turns; those behind them follow when these are taken.
        count = 0
        while taken:
            left = left[:taken[0]] + left[taken[0] + 1:]
            count += sign
            taken = [at for at in fronts(table, left) if left[at] == (kind, sign)]
        row.append((kind, count))
    return row


def hanging_pairs(table, row):
    """The pairs (later, earlier) of indexes of a short row such that the later one hangs on the earlier one."""
    found = set()
    for late in range(len(row)):
        for early in reversed(range(late)):
            direct = not passes(table, row[late][0], row[early][0])
            if direct or any((late, mid) in found and (mid, early) in found for mid in range(early + 1, late)):
                found.add((late, early))
    return found


def layered(table, word):
    """The layers of the form of a word, as [9] describes them."""
    row = short_row(table, normal(table, word))
    pairs = hanging_pairs(table, row)
    heights = []
    for late in range(len(row)):
        heights.append(max([heights[early] + 1 for early in range(late) if (late, early) in pairs], default=0))
    return tuple(
        tuple(sorted(row[at] for at in range(len(row)) if heights[at] == height))
        for height in range(max(heights, default=-1) + 1)
    )


def formed(table, word):
    """The form of a word."""
    return tuple(syllable for layer in layered(table, word) for syllable in layer)


def all_beginnings(table, word):
    """All beginnings of a word, as normal words."""
    found, new = {()}, [()]
    while new:
        grown = set()
        for one in new:
            rest = times(table, undone(one), word)
            for at in fronts(table, rest):
                grown.add(times(table, one, (rest[at],)))
        new = sorted(grown - found)
        found |= grown
    return found


def all_between(table, one, other):
    """All words between two words."""
    return {times(table, one, way) for way in all_beginnings(table, times(table, undone(one), other))}


def all_parts(table, form):
    """All parts of a form, as ascending tuples of indexes."""
    pairs = hanging_pairs(table, form)
    return [
        part for size in range(len(form) + 1) for part in itertools.combinations(range(len(form)), size)
        if all(early in part for late, early in pairs if late in part)
    ]


def all_orders(table, form):
    """The syllables of all orders of a form, by their kinds."""
    pairs = hanging_pairs(table, form)
    found = set()
    for order in itertools.permutations(range(len(form))):
        place = {at: k for k, at in enumerate(order)}
        if all(place[early] < place[late] for late, early in pairs):
            found.add(tuple(form[at] for at in order))
    return sorted(found, key=lambda row: [kind for kind, _ in row])


def led(moves, syllables, standing):
    """The standing to which a row leads a standing."""
    for kind, count in syllables:
        for _ in range(abs(count) if kind in moves else 0):
            standing = moves[kind][standing] if count > 0 else list(moves[kind]).index(standing)
    return standing


def words_within(table, kinds, most):
    """All normal words of these kinds with at most so many turns."""
    found, new = {()}, [()]
    for _ in range(most):
        grown = {times(table, word, ((kind, sign),)) for word in new for kind in kinds for sign in (1, -1)}
        new = sorted(grown - found)
        found |= grown
    return found


def groups_of(table, kinds):
    """The groups of kinds, by joining two as long as two of their kinds are barred."""
    groups = [{kind} for kind in kinds]
    for one, other in itertools.combinations(kinds, 2):
        if not passes(table, one, other):
            joined = [group for group in groups if one in group or other in group]
            groups = [group for group in groups if group not in joined] + [set().union(*joined)]
    return sorted(tuple(sorted(group)) for group in groups)


def ends_of(table, row):
    """The indexes of the first and of the last syllables of a short row."""
    pairs = hanging_pairs(table, row)
    firsts = [at for at in range(len(row)) if not any(late == at for late, _ in pairs)]
    lasts = [at for at in range(len(row)) if not any(early == at for _, early in pairs)]
    return firsts, lasts


def is_round_form(table, form):
    """Whether no kind has a first and a last syllable that are two."""
    firsts, lasts = ends_of(table, form)
    return not any(form[one][0] == form[other][0] and one != other for one in firsts for other in lasts)


def round_forms(table, form):
    """All round forms to which a form comes by turning."""
    found, new = {tuple(form)}, [tuple(form)]
    while new:
        turned = set()
        for one in new:
            for at in ends_of(table, one)[0]:
                turned.add(formed(table, turns_of([*one[:at], *one[at + 1:], one[at]])))
        new = sorted(turned - found)
        found |= turned
    return {one for one in found if is_round_form(table, one)}


def told_round(table, form):
    """The form of the round version of [35]."""
    best = None
    for one in round_forms(table, form):
        shares = [
            formed(table, turns_of([syllable for syllable in one if syllable[0] in group]))
            for group in groups_of(table, sorted({kind for kind, _ in one}))
        ]
        tops = [[share[at][0] for at in ends_of(table, share)[0]] for share in shares]
        if all(len({kind for kind, _ in share}) == 1 or top == [min(share)[0]] for share, top in zip(shares, tops)):
            best = shares if best is None else min(best, shares)
    return formed(table, turns_of([syllable for share in best for syllable in share]))


def random_pairs(source, kinds, share):
    """Free pairs of the kinds, each with a chance of share in ten."""
    return [pair for pair in itertools.combinations(kinds, 2) if source.randrange(10) < share]


def random_syllables(source, kinds, most, greatest=2):
    """At most so many syllables with counts up to a greatest one, also 0."""
    return [
        (source.choice(kinds), source.randint(-greatest, greatest)) for _ in range(source.randint(0, most))
    ]


def sources(number, seed):
    """Sources of random numbers that are the same in each run."""
    return [random.Random(seed * 1000 + at) for at in range(number)]
