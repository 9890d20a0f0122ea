"""Tests of [10], [11] and [21] to [23]: what lies between versions."""

import itertools

from helping import ABC, BARRED, FREE, GREAT, KINDS, ONE, OTHER, PARTNERS, TURNED, WIDER
from helping import Raising, alternating, row_of, version
from reference import (
    NAMES, all_between, all_parts, apart, random_pairs, random_syllables, sources, times, word_of, words_within,
)
from undoamid.between import between, count_between, distance, is_between, middle, nearest
from undoamid.errors import OtherTable, TooMany, UnknownKind
from undoamid.tables import Table
from undoamid.versions import Version

EMPTY = Version(ABC)
V, W = version("b a^2 c c^-1 a^3"), version("a^3 c^2")


def samples(number, seed, most=4):
    """Three versions over some table, each time."""
    for source in sources(number, seed):
        kinds = list(NAMES[:source.randint(1, 4)])
        table = Table(kinds, random_pairs(source, kinds, source.choice([0, 3, 5, 8, 10])))
        yield [Version(table, random_syllables(source, kinds, most)) for _ in range(3)]


def taken(number, many):
    """The first items."""
    return list(itertools.islice(number, many))


class TestDistances(Raising):
    def test_examples_of_section_9(self):
        self.assertEqual((distance(V, W), str(middle(EMPTY, V, W)), count_between(EMPTY, V)), (5, "a^3", 12))
        self.assertEqual((str(nearest(W, EMPTY, ["a", "b"])), str(nearest(W, V, ["a"]))), ("a^3", "a^3 b"))

    def test_distances(self):
        for v, w, x in samples(80, 1):
            self.assertEqual(distance(v, w), apart(v.table, word_of(v), word_of(w)))
            self.assertEqual(distance(one=v, other=w), distance(w, v))
            self.assertEqual(distance(v, v), 0)
            self.assertEqual(distance(x * v, x * w), distance(v, w))

    def test_great_distances(self):
        self.assertEqual(distance(version(f"a^{GREAT}"), version(f"a^{-GREAT} c^{GREAT}")), 3 * GREAT)
        v = Version(BARRED, [(KINDS[at % 12], GREAT) for at in range(400)])
        self.assertEqual(distance(v, ~v), 800 * GREAT)
        long = Version(ABC, alternating("a", "c", 1000))
        self.assertEqual(distance(long, Version(ABC, alternating("c", "a", 1000))), 2000)

    def test_is_between(self):
        for v, w, x in samples(120, 2, most=3):
            inside = all_between(v.table, word_of(v), word_of(w))
            self.assertIs(is_between(x, v, w), word_of(x) in inside)
            self.assertIs(is_between(version=v, one=v, other=w), True)
            self.assertIs(is_between(w, v, w), True)
        for part in (version("a^2"), version("a^5"), version("b"), version("a^5 b"), EMPTY):
            self.assertIs(is_between(part, EMPTY, V), True)
        for part in (version("a^6"), version("a^-1"), version("c"), version("a b^-1")):
            self.assertIs(is_between(part, EMPTY, V), False)

    def test_other_tables(self):
        v, w = version("a"), version("c")
        for table in (OTHER, WIDER, ONE):
            x = Version(table, [("a", 1)])
            for work, others in (
                (distance, ((v, x), (x, v))), (is_between, ((x, v, w), (v, x, w), (v, w, x), (v, v, x), (x, v, v))),
                (middle, ((x, v, w), (v, x, w), (v, w, x), (v, v, x), (x, v, v))),
                (nearest, ((v, x, ["a"]), (x, v, ["a"]), (x, v, ["x"]))),
                (count_between, ((v, x), (x, v))),
            ):
                for arguments in others:
                    self.assert_error(OtherTable, {}, work, *arguments)
            self.assert_error(OtherTable, {}, lambda: taken(between(v, x), 1))
        same = Version(TURNED, [("a", 1)])
        self.assertEqual((distance(v, same), middle(v, same, w), is_between(same, v, w)), (0, v, True))


class TestMiddle(Raising):
    def test_the_middle_is_the_only_one_between_each_two(self):
        for v, w, x in samples(120, 3):
            words = [word_of(one) for one in (v, w, x)]
            inside = [all_between(v.table, *two) for two in itertools.combinations(words, 2)]
            found = inside[0] & inside[1] & inside[2]
            self.assertEqual(found, {word_of(middle(v, w, x))})
            for three in itertools.permutations((v, w, x)):
                self.assertEqual(middle(*three), middle(v, w, x))

    def test_by_name_and_with_equal_ones(self):
        self.assertEqual(middle(third=W, other=V, one=EMPTY), version("a^3"))
        self.assertEqual((middle(V, V, W), middle(V, W, W), middle(W, V, W)), (V, W, W))

    def test_the_limit_counts_only_for_the_result(self):
        v, w = Version(ABC, alternating("a", "c", 900)), Version(ABC, alternating("b", "c", 900))
        self.assertEqual(middle(v, w, EMPTY), EMPTY)
        x = v * version("b^2")
        self.assertEqual(middle(v, x, w), v)
        ends = [Version(PARTNERS, alternating(*pair, 600)) for pair in ("ab", "cd")]
        both = [Version(PARTNERS, alternating(*pair, 300)) for pair in ("ab", "cd")]
        third = both[0] * both[1]
        self.assertEqual(middle(ends[0], ends[1], third), third)
        self.assertEqual(middle(ends[0], third, Version(PARTNERS)), both[0])

    def test_a_middle_beyond_the_limit(self):
        halves = [Version(PARTNERS, alternating(*pair, 350)) for pair in ("ab", "cd", "ef")]
        pairs = [halves[0] * halves[1], halves[0] * halves[2], halves[1] * halves[2]]
        self.assert_error(TooMany, {"count": 1000}, middle, *pairs)


class TestNearest(Raising):
    def test_the_nearest_of_all(self):
        for v, base, _ in samples(60, 4, most=3):
            for many in range(3):
                kinds = list(v.table.kinds[:many])
                found = nearest(v, base, kinds)
                ways = words_within(v.table, kinds, 4)
                target = word_of(v)
                own = distance(found, v)
                for way in ways:
                    there = times(v.table, word_of(base), way)
                    away = apart(v.table, word_of(found), there)
                    self.assertEqual(apart(v.table, there, target), own + away)
                self.assertTrue(set((~base * found).kinds) <= set(kinds))

    def test_kinds(self):
        v = version("a b c a")
        self.assertEqual(nearest(v, EMPTY, []), EMPTY)
        self.assertEqual(nearest(v, EMPTY, ("c", "b", "a", "a")), v)
        self.assertEqual(nearest(version=v, base=EMPTY, kinds=["a"]), version("a"))
        self.assertEqual(nearest(v, EMPTY, ["a", "c"]), version("a"))
        self.assertEqual(nearest(v, EMPTY, ["b", "c"]), version("b"))
        self.assertEqual(nearest(version("c a"), EMPTY, ["a", "b"]), EMPTY)
        self.assertEqual(nearest(v, version("c^2"), ["c"]), EMPTY)
        self.assertEqual(nearest(version(f"a^{GREAT} c"), version("b"), ["a"]), version(f"a^{GREAT} b"))

    def test_unknown_kinds(self):
        self.assert_error(UnknownKind, {"name": "x"}, nearest, V, W, ["a", "x", "y"])
        self.assert_error(UnknownKind, {"name": ""}, nearest, EMPTY, EMPTY, ("", "x"))
        self.assert_error(OtherTable, {}, nearest, V, Version(OTHER), ["x"])

    def test_the_list_stays(self):
        kinds = ["b", "a", "b"]
        nearest(V, EMPTY, kinds)
        self.assertEqual(kinds, ["b", "a", "b"])

    def test_the_limit(self):
        base = Version(PARTNERS, alternating("a", "b", 900))
        far = Version(PARTNERS, alternating("c", "d", 200))
        self.assert_error(TooMany, {"count": 1000}, nearest, far, base, ["c", "d"])
        self.assert_error(UnknownKind, {"name": "x"}, nearest, far, base, ["c", "d", "x"])
        self.assertEqual(len(nearest(far, base, ["c"])), 901)
        self.assertEqual(nearest(far, base, ["a", "b"]), Version(PARTNERS))


class TestNumbers(Raising):
    def test_numbers_of_versions_between(self):
        for v, w, _ in samples(120, 5):
            self.assertEqual(count_between(v, w), len(all_between(v.table, word_of(v), word_of(w))))
            self.assertEqual(count_between(one=v, other=w, most=5000), count_between(w, v))
        self.assertEqual((count_between(V, V, most=1), count_between(EMPTY, EMPTY)), (1, 1))

    def test_great_numbers(self):
        self.assertEqual(count_between(EMPTY, version(f"a^{GREAT}")), GREAT + 1)
        self.assertEqual(count_between(version(f"a^{-GREAT}"), version(f"b^{GREAT}")), (GREAT + 1) ** 2)
        self.assertEqual(count_between(EMPTY, version(f"a^{GREAT} c^-2 b^{-GREAT}")), GREAT + 3 + GREAT - 1 + 1)
        everything = Version(FREE, [(kind, GREAT) for kind in KINDS])
        self.assertEqual(count_between(Version(FREE), everything, most=4096), (GREAT + 1) ** 12)
        chain = Version(BARRED, [(KINDS[at % 12], -GREAT) for at in range(60)])
        self.assertEqual(count_between(chain, Version(BARRED)), 60 * GREAT + 1)

    def test_most_is_compared_with_the_number_of_parts(self):
        everything = Version(FREE, [(kind, 3) for kind in KINDS])
        self.assertEqual(count_between(Version(FREE), everything, most=4096), 4 ** 12)
        self.assert_error(TooMany, {"count": 4095}, count_between, Version(FREE), everything, most=4095)
        self.assert_error(TooMany, {"count": 2000}, count_between, Version(FREE), everything)
        for v, w, _ in samples(60, 6):
            parts = len(all_parts(v.table, (~v * w).syllables))
            self.assertEqual(count_between(v, w, most=parts), count_between(v, w))
            if parts > 1:
                self.assert_error(TooMany, {"count": parts - 1}, count_between, v, w, most=parts - 1)

    def test_very_many_parts(self):
        wide = Version(PARTNERS, [(kind, GREAT) for _ in range(5) for kind in KINDS])
        self.assertEqual(len(wide), 60)
        for most in (1, 2000, 5000):
            self.assert_error(TooMany, {"count": most}, count_between, Version(PARTNERS), wide, most=most)
        self.assert_error(OtherTable, {}, count_between, Version(FREE), wide, most=1)

    def test_just_two_thousand_parts_by_default(self):
        # Chains of two barred kinds with 9, 9 and 19 syllables beside one another: 10 * 10 * 20 parts.
        rows = [*alternating("a", "b", 9), *alternating("c", "d", 9), *alternating("e", "f", 19)]
        v = Version(PARTNERS, rows)
        self.assertEqual(count_between(Version(PARTNERS), v), 2000)
        more = v * Version(PARTNERS, [("f", 1)])
        self.assert_error(TooMany, {"count": 2000}, count_between, Version(PARTNERS), more)
        self.assertEqual(count_between(Version(PARTNERS), more, most=2100), 2100)
        self.assert_error(TypeError, {}, lambda: count_between(v, v, 5000))


class TestBetween(Raising):
    def test_all_versions_between_in_their_order(self):
        for v, w, _ in samples(80, 7):
            found = list(between(v, w))
            self.assertEqual({word_of(one) for one in found}, all_between(v.table, word_of(v), word_of(w)))
            places = [(distance(v, one), (~v * one).syllables) for one in found]
            self.assertEqual(places, sorted(set(places)))

    def test_an_order(self):
        found = [str(one) for one in between(EMPTY, version("a^2 b^-1 c"))]
        self.assertEqual(found, ["-", "a", "b^-1", "a b^-1", "a^2", "a^2 b^-1", "a^2 b^-1 c"])
        found = [str(one) for one in between(one=version("b a"), other=version("c"))]
        self.assertEqual(found, ["a b", "b", "a", "-", "c"])
        self.assertEqual([str(one) for one in between(V, V)], ["a^5 b"])
        self.assertEqual([str(one) for one in between(EMPTY, EMPTY)], ["-"])

    def test_items_are_versions_of_the_table(self):
        for one in between(version("a"), version("b")):
            self.assertIs(type(one), Version)
            self.assertEqual(one.table, ABC)

    def test_the_first_ones_come_soon(self):
        everything = Version(FREE, [(kind, GREAT) for kind in KINDS])
        first = taken(between(Version(FREE), everything), 200)
        self.assertEqual([len(one) for one in first[:13]], [0] + 12 * [1])
        self.assertEqual([one.turns for one in first], [0] + 12 * [1] + 78 * [2] + 109 * [3])
        self.assertEqual([str(one) for one in first[13:16]], ["a b", "a c", "a d"])
        wide = Version(PARTNERS, [(kind, -GREAT) for _ in range(5) for kind in KINDS])
        self.assertEqual(len(taken(between(~wide, wide), 100)), 100)
        chain = version(f"a^{GREAT} c^{GREAT}")
        self.assertEqual([one.turns for one in taken(between(EMPTY, chain), 300)], list(range(300)))

    def test_leaving_and_starting_again(self):
        started = between(EMPTY, V)
        first = next(started)
        again = list(between(EMPTY, V))
        self.assertEqual((first, len(again)), (EMPTY, 12))
        self.assertEqual([first, *started], again)
        both = list(zip(between(EMPTY, V), between(EMPTY, V)))
        self.assertEqual(both, [(one, one) for one in again])
