"""Tests of [2], [8] and [13], over the whole program."""

import itertools
import unittest

from reference import NAMES, led, normal, random_pairs, random_syllables, sources, turns_of, words_within
from undoamid.amends import amends, chain, hanging
from undoamid.between import between, count_between, distance, middle, nearest
from undoamid.counting import count_within, free_sets
from undoamid.errors import Barred
from undoamid.merging import joined
from undoamid.orders import count_orders, orders
from undoamid.papers import paper, paper_holds, parting_holds
from undoamid.parting import core, parted, parts
from undoamid.rounds import exchanging, lead_between, root, round_form
from undoamid.rows import Row
from undoamid.stores import Store
from undoamid.tables import Table
from undoamid.versions import Version


def random_table(source, most=5):
    """A table of some kinds with some free pairs."""
    kinds = list(NAMES[:source.randint(1, most)])
    return Table(kinds, random_pairs(source, kinds, source.choice([0, 3, 5, 8, 10])))


def stepped(source, table, syllables):
    """The syllables after one random step of [40]."""
    found = list(syllables)
    kind = source.choice(table.kinds)
    at = source.randrange(len(found) + 1)
    here = found[at:at + 2]
    if not here or source.randrange(6) == 0:
        found.insert(at, (kind, 0))
    elif here[0][1] == 0 and source.randrange(2):
        del found[at]
    elif len(here) == 2 and here[0][0] == here[1][0]:
        found[at:at + 2] = [(here[0][0], here[0][1] + here[1][1])]
    elif len(here) == 2 and table.free(here[0][0], here[1][0]):
        found[at:at + 2] = [here[1], here[0]]
    elif source.randrange(3) == 0:
        share = source.randint(-3, 3)
        found[at:at + 1] = [(here[0][0], share), (here[0][0], here[0][1] - share)]
    return found


class TestOneForm(unittest.TestCase):
    def test_equal_forms_steps_and_stores_tell_the_same(self):
        seen = set()
        for source in sources(150, 17):
            table = random_table(source, most=4)
            syllables = random_syllables(source, list(table.kinds), 5)
            one = Row(table, syllables)
            for _ in range(20):
                syllables = stepped(source, table, syllables)
            if source.randrange(2) and syllables:
                at = source.randrange(len(syllables))
                syllables[at:at + 2] = syllables[at:at + 2][::-1]
            other = Row(table, syllables)
            v, w = Version.of(one), Version.of(other)
            alike = v.syllables == w.syllables
            seen.add(alike)
            steps, answer = paper(one, other), parted(v, w, most=5000)
            self.assertEqual((v == w, steps is not None, answer is None), (alike, alike, alike))
            if alike:
                self.assertIs(paper_holds(one, other, steps), True)
            else:
                self.assertIs(parting_holds(v, w, *answer), True)
        self.assertEqual(seen, {True, False})

    def test_steps_do_not_change_the_version(self):
        for source in sources(80, 11):
            table = random_table(source)
            row = random_syllables(source, list(table.kinds), 6)
            expected = Version(table, row)
            for _ in range(30):
                row = stepped(source, table, row)
                self.assertEqual(Version(table, row), expected)
                self.assertEqual(Version(table, row).syllables, expected.syllables)

    def test_rows_that_are_not_alike_have_other_versions(self):
        for pairs in ([], [("a", "b")], [("a", "b"), ("b", "c")], [("a", "b"), ("b", "c"), ("a", "c")]):
            table = Table(["a", "b", "c"], pairs)
            words = words_within(table, table.kinds, 3)
            self.assertEqual(len({Version(table, word).syllables for word in words}), len(words))

    def test_rows_of_a_version_lead_each_standing_to_the_same_one(self):
        """All moves of three standings that keep the table, for rows made by steps."""
        table = Table(["a", "b", "c"], [("a", "b")])
        moves = list(itertools.permutations(range(3)))
        stores = [
            {"a": one, "b": other, "c": third} for one, other, third in itertools.product(moves, repeat=3)
            if all(one[other[k]] == other[one[k]] for k in range(3))
        ]
        rows = [random_syllables(source, ["a", "b", "c"], 5) for source in sources(40, 12)]
        for row in rows:
            form = Version(table, row).syllables
            for store in stores:
                self.assertEqual([led(store, row, k) for k in range(3)], [led(store, form, k) for k in range(3)])
        for one, other in (("ab", "ba"), ("ac", "ca"), ("a", "b"), ("cb", "bc"), ("aca", "aac")):
            words = [[(kind, 1) for kind in word] for word in (one, other)]
            same = all(led(store, words[0], k) == led(store, words[1], k) for store in stores for k in range(3))
            self.assertIs(Version(table, words[0]) == Version(table, words[1]), same)


class TestShortRows(unittest.TestCase):
    def test_short_rows_are_the_orders_of_the_form(self):
        for source in sources(60, 13):
            table = random_table(source)
            row = random_syllables(source, list(table.kinds), 6)
            v = Version(table, row)
            for _ in range(40):
                row = stepped(source, table, row)
                self.assertLessEqual(len(v), len(row))
                self.assertLessEqual(v.turns, Row(table, row).turns)
                if len(row) == len(v):
                    self.assertEqual(sorted(row), sorted(v.syllables))
                    self.assertIn(tuple(row), [one.syllables for one in orders(v)])

    def test_no_row_has_fewer_syllables(self):
        table = Table(["a", "b", "c"], [("a", "b")])
        syllables = [(kind, count) for kind in "abc" for count in (-2, -1, 1, 2)]
        for size in range(4):
            for row in itertools.product(syllables, repeat=size):
                v = Version(table, row)
                self.assertLessEqual(len(v), size)
                if len(v) == size:
                    self.assertIn(row, [one.syllables for one in orders(v)])


class TestLeastAmends(unittest.TestCase):
    def test_they_undo_and_do_again_exactly_what_hangs(self):
        for source in sources(80, 14):
            table = random_table(source)
            row = Row(table, [(kind, count or 1) for kind, count in random_syllables(source, list(table.kinds), 7)])
            for at, (kind, count) in enumerate(row.syllables):
                h = hanging(row, at)
                way = amends(row, at)
                self.assertEqual(len(way), 2 * len(h) + 1)
                self.assertEqual(way.turns, 2 * sum(abs(many) for _, many in h) + abs(count))
                again = [(one, -many) for one, many in reversed(h)]
                self.assertEqual(way, Version(table, [*again, (kind, -count), *h]))
                word = turns_of(way.syllables)
                self.assertEqual(len(normal(table, word)), way.turns)


class TestMiddlesAndBeginnings(unittest.TestCase):
    def test_exactly_one_is_between_each_two(self):
        table = Table(["a", "b", "c"], [("a", "b")])
        near = [Version(table, word) for word in sorted(words_within(table, table.kinds, 3))]
        for three in ((0, 5, 9), (3, 60, 100), (20, 30, 40), (7, 77, 111), (1, 2, 3)):
            v, w, x = [near[at] for at in three]
            found = [
                y for y in near
                if distance(v, y) + distance(y, w) == distance(v, w)
                and distance(v, y) + distance(y, x) == distance(v, x)
                and distance(w, y) + distance(y, x) == distance(w, x)
            ]
            self.assertEqual(found, [middle(v, w, x)])

    def test_several_that_have_joins_two_by_two_have_one(self):
        for source in sources(200, 15):
            table = random_table(source)
            three = [Version(table, random_syllables(source, list(table.kinds), 3)) for _ in range(3)]
            try:
                joins = [one | other for one, other in itertools.combinations(three, 2)]
            except Barred:
                continue
            top = joins[0] | three[2]
            self.assertTrue(all(one.begins(top) for one in [*three, *joins]))

    def test_every_common_beginning_begins_the_greatest_one(self):
        table = Table(["a", "b", "c"], [("a", "b")])
        near = [Version(table, word) for word in sorted(words_within(table, table.kinds, 2))]
        for v, w in itertools.product(near, repeat=2):
            for x in near:
                if x.begins(v) and x.begins(w):
                    self.assertTrue(x.begins(v & w))


class TestNearest(unittest.TestCase):
    def test_others_are_at_least_as_far_by_their_distance_from_it(self):
        for source in sources(60, 16):
            table = random_table(source, most=4)
            v, base = [Version(table, random_syllables(source, list(table.kinds), 4)) for _ in range(2)]
            kinds = [kind for kind in table.kinds if source.randrange(2)]
            found = nearest(v, base, kinds)
            for _ in range(20):
                other = base * Version(table, random_syllables(source, list(table.kinds), 4)).only(*kinds)
                self.assertGreaterEqual(distance(v, other), distance(v, found) + distance(found, other))


class TestNothingChanges(unittest.TestCase):
    """[2]: the same call returns an equal result, and what was passed is as it was."""

    def all_answers(self, table, syllables, others):
        row, v, w = Row(table, syllables), Version(table, syllables), Version(table, others)
        store = Store(3, {"a": [1, 2, 0], "b": [2, 0, 1]})
        return [
            row, v, w, str(table), str(row), v.layers, v.last, v * w, ~v, v & w, v.power(3), distance(v, w),
            middle(v, w, ~v), nearest(v, w, ["a"]), count_between(v, w), list(itertools.islice(between(v, w), 9)),
            count_orders(v), [one.syllables for one in itertools.islice(orders(v), 9)], hanging(row, 0),
            amends(row, 0, 1), chain(row, 0, 0), store, store.moves, store(v, 1), store.clash(table),
            core(v, w), parted(v, w),
            list(parts(v)), round_form(v), root(v), lead_between(v, ~w * v * w), exchanging(v), joined(v, v, v * w),
            paper(row, v.row), free_sets(table), count_within(table, 9),
        ]

    def test_all_answers_twice(self):
        kinds, pairs = ["b", "a", "c"], [("b", "a")]
        syllables, others = [("a", 2), ("c", 1), ("b", -1), ("c", 3)], [("c", -1), ("b", 2), ("a", 0)]
        before = [list(kinds), list(pairs), list(syllables), list(others)]
        table = Table(kinds, pairs)
        first = self.all_answers(table, syllables, others)
        self.all_answers(table.without_pair("a", "b"), syllables, others)
        self.assertEqual(self.all_answers(table, syllables, others), first)
        self.assertEqual(self.all_answers(Table(kinds, pairs), syllables, others), first)
        self.assertEqual([kinds, pairs, syllables, others], before)
        row, v = Row(table, syllables), Version(table, syllables)
        for some in (kinds, pairs, syllables, others):
            some.clear()
        self.assertEqual((table.kinds, table.pairs), (("a", "b", "c"), (("a", "b"),)))
        self.assertEqual((row.syllables, v.syllables), (tuple(before[2]), first[1].syllables))


if __name__ == "__main__":
    unittest.main()
