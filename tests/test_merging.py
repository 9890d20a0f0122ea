"""Tests of [39], and of [13] "Beginnings" for several versions."""

import itertools
import sys

from helping import ABC, GREAT, ONE, OTHER, PARTNERS, TURNED, WIDER, Raising, alternating, version
from reference import NAMES, all_beginnings, random_pairs, random_syllables, sources, times, undone, word_of
from undoamid.errors import Barred, Clash, OtherTable, TooMany
from undoamid.merging import joined, laid, together
from undoamid.tables import Table
from undoamid.versions import Version

EMPTY = Version(ABC)


def samples(number, seed, many=4, most=3):
    """Some versions over some table, each time."""
    for source in sources(number, seed):
        kinds = list(NAMES[:source.randint(1, 5)])
        table = Table(kinds, random_pairs(source, kinds, source.choice([0, 3, 5, 8, 10])))
        base = Version(table, random_syllables(source, kinds, most))
        yield [base, *[base * Version(table, random_syllables(source, kinds, most)) for _ in range(many - 1)]]


def first_barred(base, versions):
    """What `|` raises for the first two that have none, or None."""
    ways = [~base * one for one in versions]
    for second in range(len(ways)):
        for first in range(second):
            try:
                ways[first] | ways[second]
            except Barred as error:
                return {"one": error.one, "other": error.other}
    return None


# Pairs of kinds that are barred; kinds of different pairs are free.
FREE_PAIRS = ("ab", "cd", "ef", "gh", "ij", "kl")


def free_versions(*sizes):
    """Versions of so many syllables over pairs of partners, all free with one another."""
    return [Version(PARTNERS, alternating(*pair, size)) for pair, size in zip(FREE_PAIRS, sizes)]


def side_by_side(*sizes):
    """The layers of the product of such versions."""
    rows = [alternating(*pair, size) for pair, size in zip(FREE_PAIRS, sizes)]
    return tuple(
        tuple(syllable for syllable in layer if syllable is not None) for layer in itertools.zip_longest(*rows)
    )


def calls_of(work):
    """How many functions and methods are called while this one runs."""
    told = []
    before = sys.getprofile()
    sys.setprofile(lambda frame, event, argument: told.append(event))
    try:
        work()
    finally:
        sys.setprofile(before)
    return len([event for event in told if event in ("call", "c_call")])


class TestLaid(Raising):
    def test_what_was_done_behind_another_version(self):
        for base, branch, onto, _ in samples(80, 71):
            expected = times(base.table, word_of(onto), undone(word_of(base)), word_of(branch))
            found = laid(base=base, branch=branch, onto=onto)
            self.assertIs(type(found), Version)
            self.assertEqual(word_of(found), expected)
            self.assertEqual(laid(base, base, onto), onto)
            self.assertEqual(laid(base, branch, base), branch)

    def test_the_limit_counts_only_for_the_result(self):
        base, onto = Version(ABC, alternating("a", "c", 900)), Version(ABC, alternating("c", "a", 900))
        self.assertEqual(laid(base, onto, base), onto)
        self.assertEqual(laid(base, EMPTY, base), EMPTY)
        self.assert_error(TooMany, {"count": 1000}, laid, base, onto, onto)
        nearly = Version(ABC, alternating("b", "c", 998))
        self.assertEqual(len(laid(EMPTY, version("a c"), nearly)), 1000)
        self.assert_error(TooMany, {"count": 1000}, laid, EMPTY, version("a c a"), nearly)


class TestJoined(Raising):
    def test_examples_of_section_15(self):
        base, one, other = EMPTY, version("a^3"), version("a^5 b")
        self.assertEqual((str(joined(base, one, other)), str(together(base, one, other))), ("a^5 b", "a^8 b"))

    def test_one_version(self):
        for base, one, _, _ in samples(40, 72):
            self.assertEqual(joined(base, one), one)
            self.assertEqual(joined(base=base, one=one), one)
            self.assertEqual(joined(base, one, one, one), one)
            self.assertEqual(joined(base, one, base), one)

    def test_two_versions(self):
        many = 0
        for base, one, other, _ in samples(150, 73):
            error = first_barred(base, [one, other])
            if error is not None:
                self.assert_error(Barred, error, joined, base, one, other)
                continue
            many += 1
            found = joined(base, one, other)
            self.assertEqual(found, base * ((~base * one) | (~base * other)))
            self.assertEqual(found, joined(base, other, one))
            beginnings = all_beginnings(base.table, word_of(~base * found))
            self.assertLessEqual({word_of(~base * one), word_of(~base * other)}, beginnings)
        self.assertGreater(many, 30)

    def test_several_versions(self):
        many = 0
        for base, *others in samples(300, 74, many=5, most=2):
            error = first_barred(base, others)
            if error is not None:
                self.assert_error(Barred, error, joined, base, *others)
                continue
            many += 1
            found = joined(base, *others)
            ways = [~base * one for one in others]
            self.assertTrue(all(way.begins(~base * found) for way in ways))
            # It is the least one: every one of which all are beginnings begins with it.
            less = [
                word for word in all_beginnings(base.table, word_of(~base * found))
                if all(word_of(way) in all_beginnings(base.table, word) for way in ways)
            ]
            self.assertEqual(less, [word_of(~base * found)])
            for order in itertools.permutations(others):
                self.assertEqual(joined(base, *order), found)
        self.assertGreater(many, 20)

    def test_which_two_are_told(self):
        a, b, c, up, down = version("a"), version("b"), version("c"), version("a^3"), version("a^-2")
        told = {"one": ("a", 3), "other": ("a", -2)}
        self.assert_error(Barred, told, joined, EMPTY, up, down)
        self.assert_error(Barred, told, joined, version("c"), version("c a^3"), version("c a^-2"))
        # By the second one, then by the first one.
        self.assert_error(Barred, {"one": ("b", 1), "other": ("c", 1)}, joined, EMPTY, b, a, c, down)
        self.assert_error(Barred, {"one": ("a", 1), "other": ("a", -2)}, joined, EMPTY, b, a, down, c)
        self.assert_error(Barred, {"one": ("a", -2), "other": ("a", 1)}, joined, EMPTY, down, b, a, c)
        self.assert_error(Barred, {"one": ("c", 1), "other": ("b", 1)}, joined, EMPTY, c, c, b, a)
        self.assertEqual(str(joined(EMPTY, a, b, up)), "a^3 b")

    def test_the_limit_counts_only_for_the_result(self):
        base = Version(ABC, alternating("a", "c", 1000))
        one, other = version("c^2 a"), version("c^2 b")
        self.assertEqual(joined(base, one, other), version("c^2 a b"))
        pairs = [Version(PARTNERS, alternating(*pair, 400)) for pair in ("ab", "cd", "ef")]
        empty = Version(PARTNERS)
        self.assertEqual(joined(empty, *pairs[:2]), pairs[0] * pairs[1])
        self.assert_error(TooMany, {"count": 1000}, joined, empty, *pairs)
        back = ~pairs[0]
        self.assertEqual(joined(back, empty, back * pairs[1], back * pairs[2]), pairs[1] * pairs[2])
        barred = Version(PARTNERS, [("b", 1)])
        self.assert_error(Barred, {"one": ("a", 1), "other": ("b", 1)}, joined, empty, *pairs, barred)


class TestLongJoined(Raising):
    def test_long_versions_that_are_free_with_one_another(self):
        empty = Version(PARTNERS)
        for sizes in (
            (500, 500), (320, 320, 320), (334, 333, 333), (998, 1, 1), (250,) * 4, (1, 2, 3, 994), (200,) * 5,
            (167, 167, 167, 167, 167, 165),
        ):
            with self.subTest(sizes=sizes):
                versions = free_versions(*sizes)
                expected = side_by_side(*sizes)
                found = joined(empty, *versions)
                self.assertEqual(found.layers, expected)
                self.assertEqual(found.syllables, tuple(syllable for layer in expected for syllable in layer))
                self.assertEqual(joined(empty, *versions[::-1]), found)
                # What the others begin with changes nothing, wherever it stands.
                less = free_versions(*[size // 2 for size in sizes])
                self.assertEqual(joined(empty, *less, *versions), found)
                self.assertEqual(joined(empty, empty, *versions, *less), found)

    def test_one_syllable_too_many(self):
        empty = Version(PARTNERS)
        for sizes in (
            (501, 500), (334, 334, 333), (336, 336, 336), (352, 352, 352), (1000, 1), (1000, 1000, 1000),
            (251, 250, 250, 250), (167,) * 6, (1000,) * 6,
        ):
            with self.subTest(sizes=sizes):
                versions = free_versions(*sizes)
                self.assert_error(TooMany, {"count": 1000}, joined, empty, *versions)
                self.assert_error(TooMany, {"count": 1000}, joined, empty, *versions[::-1], empty, versions[0])

    def test_long_versions_behind_a_base(self):
        for base in (Version(PARTNERS, [("b", 2), ("d", -1), ("f", 1)]), free_versions(90, 80)[1]):
            versions = free_versions(300, 300, 300)
            product = base * versions[0] * versions[1] * versions[2]
            self.assertEqual(joined(base, *[base * one for one in versions]), product)
            self.assertLessEqual(len(product), 1000)
        # The way back to the base is part of the way to each of them.
        one, other, third = free_versions(400, 300, 300)
        base = ~one * ~other * ~third
        self.assertEqual(len(base), 1000)
        ways = [base * way for way in (one, other, third)]
        self.assertEqual([len(way) for way in ways], [600, 700, 700])
        self.assertEqual(joined(base, *ways), Version(PARTNERS))
        # A common way of 1,200 syllables that takes back 400 of the base.
        long, more, most = free_versions(400, 400, 400)
        self.assertEqual(joined(~long, Version(PARTNERS), ~long * more, ~long * most), more * most)

    def test_which_long_ones_are_barred(self):
        empty = Version(PARTNERS)
        one, other, third = free_versions(334, 334, 334)
        last = Version(PARTNERS, [*third.syllables[:-1], ("f", 7)])
        less = Version(PARTNERS, [*other.syllables[:-1], ("d", -1)])
        behind = Version(PARTNERS, [*one.syllables[:200], ("b", 5)])
        for versions, told in (
            # The second one of the two comes first of all that are barred with one ahead of it.
            ([one, other, third, less], (("d", 1), ("d", -1))),
            ([one, less, third, other], (("d", -1), ("d", 1))),
            ([one, other, third, behind, less], (("a", 1), ("b", 5))),
            ([one, other, third, less, behind], (("d", 1), ("d", -1))),
            ([behind, less, third, one, other], (("b", 5), ("a", 1))),
            # The first one of the two is the first that is barred with the second one.
            ([one, other, less * behind], (("a", 1), ("b", 5))),
            ([other, one, less * behind], (("d", 1), ("d", -1))),
            # The greater count of the last syllable is no reason.
            ([third, last, one, other, less], (("d", 1), ("d", -1))),
            ([last, third, one, behind], (("a", 1), ("b", 5))),
        ):
            barred = {"one": told[0], "other": told[1]}
            self.assert_error(Barred, barred, joined, empty, *versions)
            self.assertEqual(first_barred(empty, versions), barred)

    def test_which_syllables_of_long_ones_are_told(self):
        empty = Version(PARTNERS)
        one, other, third = free_versions(320, 320, 320)
        mixed = Version(PARTNERS, [("g", 1), ("d", 4), ("i", 3), ("f", -2)])
        self.assertEqual(mixed.syllables, (("d", 4), ("f", -2), ("g", 1), ("i", 3)))
        self.assert_error(Barred, {"one": ("c", 1), "other": ("d", 4)}, joined, empty, one, other, third, mixed)
        self.assert_error(Barred, {"one": ("e", 1), "other": ("f", -2)}, joined, empty, one, third, other, mixed)
        self.assert_error(Barred, {"one": ("f", -2), "other": ("e", 1)}, joined, empty, one, mixed, third, other)
        # Seen from the base, and behind what both have.
        base = Version(PARTNERS, [("c", 3), ("e", 3), ("h", 1)])
        start = one * Version(PARTNERS, [("c", 1), ("d", 1)])
        ways = [base * way for way in (one, third, start * mixed, start * other)]
        self.assert_error(Barred, {"one": ("e", 1), "other": ("f", -2)}, joined, base, *ways)
        self.assert_error(Barred, {"one": ("d", 4), "other": ("c", 1)}, joined, base, ways[0], *ways[2:])

    def test_other_tables_and_barred_ones_are_told_ahead_of_too_many(self):
        empty = Version(PARTNERS)
        versions = free_versions(400, 400, 400)
        undone = Version(PARTNERS, [("e", -1)])
        self.assert_error(TooMany, {"count": 1000}, joined, empty, *versions)
        self.assert_error(Barred, {"one": ("e", 1), "other": ("e", -1)}, joined, empty, *versions, undone)
        self.assert_error(OtherTable, {}, joined, empty, *versions, undone, version("a"))
        self.assert_error(OtherTable, {}, joined, version("a"), *versions, undone)

    def test_three_times_the_syllables_take_about_three_times_the_work(self):
        empty = Version(PARTNERS)
        barred = Version(PARTNERS, [("f", 1)])
        short, long = free_versions(110, 110, 110), free_versions(330, 330, 330)
        work = [calls_of(lambda: joined(empty, *versions)) for versions in (short, long)]
        self.assertGreater(work[0], 100)
        self.assertLess(work[1], 5 * work[0])

        def told(versions):
            with self.assertRaises(Barred):
                joined(empty, *versions, barred)

        work = [calls_of(lambda: told(versions)) for versions in (short, long)]
        self.assertLess(work[1], 5 * work[0])


class TestTogether(Raising):
    def test_exchangeable_ones(self):
        many = 0
        for base, one, other, _ in samples(200, 75):
            p, q = ~base * one, ~base * other
            if p * q == q * p:
                many += 1
                self.assertEqual(together(base=base, one=one, other=other), base * p * q)
                self.assertEqual(together(base, other, one), base * p * q)
            else:
                self.assert_error(Clash, {"version": p * q * ~p * ~q}, together, base, one, other)
        self.assertGreater(many, 50)

    def test_what_both_have_done_is_done_twice(self):
        self.assertEqual(str(together(version("c"), version("c a c"), version("c a c"))), "c a c a c")
        self.assertEqual(str(together(EMPTY, version("a^3"), version("a^-3"))), "-")
        self.assertEqual(str(together(EMPTY, version("a c a c"), version("c^-1 a^-1"))), "a c")
        self.assertEqual(together(EMPTY, version(f"a^{GREAT}"), version("b")), version(f"a^{GREAT} b"))
        self.assert_error(Clash, {"version": version("a c a^-1 c^-1")}, together, EMPTY, version("a"), version("c"))

    def test_the_limit(self):
        ac, ca = Version(ABC, alternating("a", "c", 300)), Version(ABC, alternating("c", "a", 300))
        self.assert_error(TooMany, {"count": 1000}, together, EMPTY, ac, ca.power(2))
        self.assert_error(TooMany, {"count": 1000}, together, EMPTY, ac, ac.power(3))
        self.assertEqual(together(ac.power(-3), EMPTY, EMPTY), ac.power(3))
        self.assertEqual(together(ac.power(3), EMPTY, ac.power(2)), ~ac)


class TestTables(Raising):
    def test_other_tables(self):
        v = version("a")
        for table in (OTHER, WIDER, ONE):
            w = Version(table, [("a", 1)])
            for work in (laid, joined, together):
                for three in ((w, v, v), (v, w, v), (v, v, w), (w, w, v)):
                    self.assert_error(OtherTable, {}, work, *three)
            self.assert_error(OtherTable, {}, joined, v, w)
            # Ahead of what is barred.
            self.assert_error(OtherTable, {}, joined, v, version("a c"), version("a^-1"), w)
            self.assert_error(OtherTable, {}, together, v, version("a c"), w)
        same = Version(TURNED, [("a", 2)])
        self.assertEqual((joined(v, same), laid(v, same, v), together(v, same, v)), (same, same, same))
