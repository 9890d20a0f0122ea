"""Tests of [43] and [44]: numbers of versions."""

import itertools
import math

from helping import ABC, BARRED, FREE, KINDS, ONE, PARTNERS, Raising
from reference import NAMES, passes, random_pairs, sources, words_within
from undoamid.counting import count_versions, count_within, free_sets
from undoamid.tables import Table


def tables(number, seed, most=5):
    """Some tables."""
    for source in sources(number, seed):
        kinds = list(NAMES[:source.randint(1, most)])
        yield Table(kinds, random_pairs(source, kinds, source.choice([0, 3, 5, 8, 10])))


def told_sets(table):
    """The tuple of [44], by going through all sets."""
    found = []
    for size in range(len(table.kinds) + 1):
        sets = itertools.combinations(table.kinds, size)
        found.append(sum(all(passes(table, *pair) for pair in itertools.combinations(some, 2)) for some in sets))
    return tuple(number for number in found if number)


def told_numbers(table, turns):
    """The numbers of versions with 0, 1, .. turns, layer by layer of single turns.

    A layer is a set of turns that are pairwise free. Each turn stands as far in front as it can: it cannot
    pass something in the layer ahead, and it is not what undoes a turn there.
    """
    layers = [{}]
    for kind in table.kinds:
        layers += [
            {**layer, kind: sign} for layer in layers for sign in (1, -1)
            if all(passes(table, kind, other) for other in layer)
        ]
    layers = layers[1:]

    def follows(layer, ahead):
        return all(
            ahead[kind] == sign if kind in ahead else not all(passes(table, kind, other) for other in ahead)
            for kind, sign in layer.items()
        )

    after = [[k for k, ahead in enumerate(layers) if follows(layer, ahead)] for layer in layers]
    # For each number of turns, how many versions end in each layer.
    ends = [[1 if len(layer) == turn else 0 for layer in layers] for turn in range(turns + 1)]
    for turn in range(turns + 1):
        for at, layer in enumerate(layers):
            if turn > len(layer):
                ends[turn][at] += sum(ends[turn - len(layer)][k] for k in after[at])
    return [1] + [sum(numbers) for numbers in ends[1:]]


class TestNumbers(Raising):
    def test_examples_of_section_17(self):
        self.assertEqual(free_sets(ABC), (1, 3, 1))
        self.assertEqual([count_versions(ABC, turns) for turns in range(4)], [1, 6, 26, 110])

    def test_all_versions_with_few_turns(self):
        for table in tables(25, 91, most=4):
            words = words_within(table, table.kinds, 3)
            for turns in range(4):
                expected = sum(len(word) == turns for word in words)
                self.assertEqual(count_versions(table, turns), expected)
                self.assertEqual(count_within(table=table, turns=turns), sum(len(word) <= turns for word in words))

    def test_more_turns(self):
        for table in [*tables(25, 92, most=4), ABC, ONE]:
            numbers = told_numbers(table, 15)
            self.assertEqual([count_versions(table=table, turns=turns) for turns in range(16)], numbers)
            self.assertEqual(count_within(table, 15), sum(numbers))

    def test_one_kind(self):
        self.assertEqual(free_sets(ONE), (1, 1))
        self.assertEqual([count_versions(ONE, turns) for turns in (0, 1, 2, 7, 2000)], [1, 2, 2, 2, 2])
        self.assertEqual([count_within(ONE, turns) for turns in (0, 1, 2, 2000)], [1, 3, 5, 4001])

    def test_two_thousand_turns(self):
        self.assertEqual(count_versions(BARRED, 2000), 24 * 23 ** 1999)
        self.assertEqual(count_within(BARRED, 2000), 1 + 24 * (23 ** 2000 - 1) // 22)
        free = sum(math.comb(12, k) * 2 ** k * math.comb(1999, k - 1) for k in range(1, 13))
        self.assertEqual(count_versions(FREE, 2000), free)
        within = sum(math.comb(12, k) * 2 ** k * math.comb(2000, k) for k in range(13))
        self.assertEqual(count_within(FREE, 2000), within)
        # Six groups without a common kind: products of what one group has.
        one = [1] + [4 * 3 ** (turn - 1) for turn in range(1, 301)]
        every = [1] + [0] * 300
        for _ in range(6):
            every = [sum(every[k] * one[turn - k] for k in range(turn + 1)) for turn in range(301)]
        self.assertEqual([count_versions(PARTNERS, turns) for turns in (7, 60, 300)], [every[7], every[60], every[300]])
        self.assertEqual(count_within(PARTNERS, 300), sum(every))
        self.assertEqual(count_within(PARTNERS, 2000) - count_within(PARTNERS, 1999), count_versions(PARTNERS, 2000))
        self.assertIs(type(count_versions(PARTNERS, 2000)), int)

    def test_no_turns(self):
        for table in (ABC, FREE, BARRED, ONE, PARTNERS):
            self.assertEqual((count_versions(table, 0), count_within(table, 0)), (1, 1))
            self.assertEqual(count_versions(table, 1), 2 * len(table))


class TestFreeSets(Raising):
    def test_all_sets(self):
        for table in [*tables(60, 93, most=7), ABC, ONE]:
            found = free_sets(table=table)
            self.assertEqual(found, told_sets(table))
            self.assertIs(type(found), tuple)
            self.assertEqual((found[0], found[1], 0 in found), (1, len(table), False))

    def test_all_kinds_free_and_all_barred(self):
        self.assertEqual(free_sets(FREE), tuple(math.comb(12, k) for k in range(13)))
        self.assertEqual(free_sets(BARRED), (1, 12))
        self.assertEqual(free_sets(PARTNERS), tuple(math.comb(6, k) * 2 ** k for k in range(7)))
        self.assertEqual(free_sets(Table(KINDS, [("a", "l"), ("a", "k"), ("k", "l")])), (1, 12, 3, 1))
