"""Tests of [34] to [38]: round versions, roots, leads and exchange."""

import itertools

from helping import ABC, BARRED, FREE, GREAT, KINDS, ONE, OTHER, PARTNERS, PATH, TURNED, WIDER
from helping import Raising, alternating, version
from reference import (
    NAMES, groups_of, is_round_form, random_pairs, random_syllables, round_forms, sources, times, told_round,
    word_of, words_within,
)
from undoamid.errors import OtherTable
from undoamid.rounds import (
    exchangeable, exchanging, exponent, is_round, lead_between, root, round_form,
)
from undoamid.tables import Table
from undoamid.versions import Version

EMPTY = Version(ABC)


def samples(number, seed, most=5, greatest=2):
    """Three versions over some table, each time."""
    for source in sources(number, seed):
        kinds = list(NAMES[:source.randint(1, 5)])
        table = Table(kinds, random_pairs(source, kinds, source.choice([0, 3, 5, 8, 10])))
        yield [Version(table, random_syllables(source, kinds, most, greatest)) for _ in range(3)]


def all_within(table, turns):
    """All versions with at most so many turns."""
    return [Version(table, word) for word in sorted(words_within(table, table.kinds, turns))]


def turned(v, lead):
    """~lead * v * lead, by the reference."""
    return word_of(~lead * v * lead)


class TestRound(Raising):
    def test_examples_of_section_14(self):
        w = version("c b^2 a^4 c^-1")
        lead, middle = round_form(w)
        self.assertEqual((str(middle), lead * middle * ~lead == w), ("a^4 b^2", True))
        self.assertEqual((str(root(w)[0]), root(w)[1]), ("c a^2 b c^-1", 2))
        one, other = version("a c a"), version("c a^2")
        lead = lead_between(one, other)
        self.assertEqual((~lead * one * lead == other, lead_between(one, ~other)), (True, None))

    def test_is_round(self):
        for v, w, _ in samples(150, 61):
            for one in (v, w, v * w, v.power(2), ~v * w * v):
                expected = is_round_form(one.table, one.syllables)
                self.assertIs(is_round(version=one), expected)

    def test_some_round_versions(self):
        for text in ("-", "a", "a^-7", "a c", "a b", "a c b c", "c a c^2 b", f"a^{GREAT} c b c^-1"):
            self.assertIs(is_round(version(text)), True)
        for text in ("a c a", "a c a^-1", "c a c", "a b c b", "c a b c^-1", "a c b^2 c a"):
            self.assertIs(is_round(version(text)), False)

    def test_the_round_version_of_35(self):
        for v, w, _ in samples(150, 62):
            for one in (v, ~w * v * w):
                lead, middle = round_form(version=one)
                self.assertEqual(lead * middle * ~lead, one)
                self.assertEqual(middle.syllables, told_round(one.table, one.syllables))
                self.assertIs(is_round(middle), True)

    def test_shares_with_one_first_syllable_that_are_not_the_least(self):
        for text, expected in (
            ("a^2 c a c", "a c a^2 c"), ("c a c^2 a^-1", "a^-1 c a c^2"), ("a c a^-1 b c", "a^-1 c a c b"),
            ("c^3 a c^2 a c a", "a c a c^3 a c^2"), ("c b", "b c"), ("b^-1 c b c^-2 a", "a c b c^-2 b^-1"),
        ):
            self.assertEqual(str(round_form(version(text))[1]), str(version(expected)), text)
            self.assertEqual(told_round(ABC, version(text).syllables), version(expected).syllables)

    def test_all_that_are_led_by_any_row_have_the_same_round(self):
        for v, w, x in samples(120, 63):
            expected = round_form(v)[1]
            for lead in (w, x, w * x, v, ~v * w):
                moved = lead * v * ~lead
                if len(moved) <= 40:
                    found, middle = round_form(moved)
                    self.assertEqual(middle, expected)
                    self.assertEqual(found * middle * ~found, moved)

    def test_the_empty_version_and_one_kind(self):
        self.assertEqual(round_form(EMPTY), (EMPTY, EMPTY))
        for count in (1, -1, 7, GREAT):
            v = Version(ONE, [("a", count)])
            lead, middle = round_form(v)
            self.assertEqual((lead * middle * ~lead, middle), (v, v))

    def test_all_kinds_free_and_all_barred(self):
        free = Version(FREE, [(kind, GREAT) for kind in KINDS])
        self.assertEqual(round_form(free)[1], free)
        barred = Version(BARRED, [(KINDS[at * 5 % 12], 1 + at // 12) for at in range(40)])
        lead, middle = round_form(barred)
        self.assertEqual(lead * middle * ~lead, barred)
        self.assertEqual(middle.syllables[0], ("a", 1))
        every = [middle.syllables[at:] + middle.syllables[:at] for at in range(len(middle))]
        self.assertEqual(middle.syllables, min(one for one in every if one[0][0] == "a"))


class TestRoots(Raising):
    def test_the_greatest_power_of_all(self):
        for pairs in ([], [("a", "b")]):
            table = Table(["a", "b"], pairs)
            near = sorted(words_within(table, table.kinds, 4))
            most = {}
            for word in near:
                power = ()
                for k in range(1, 5):
                    power = times(table, power, word)
                    if word and most.get(power, (0, None))[0] < k:
                        most[power] = (k, word)
            for word in near[1:]:
                base, power = root(Version(table, word))
                self.assertEqual((power, word_of(base)), most[word])

    def test_roots_of_powers(self):
        for v, w, _ in samples(120, 64, most=4):
            base, power = root(version=v)
            self.assertEqual(base.power(power), v)
            self.assertIs(type(power), int)
            if not v:
                self.assertEqual((base, power), (v, 0))
                continue
            self.assertEqual(root(base), (base, 1))
            for k in (2, 3, 6):
                if len(v.power(k)) <= 40:
                    self.assertEqual(root(v.power(k)), (base, power * k))
                    self.assertEqual(root(v.power(-k)), (~base, power * k))
                    self.assertEqual(root(w * v.power(k) * ~w), (w * base * ~w, power * k))

    def test_counts_and_signs(self):
        for text, base, power in (
            ("a^-4", "a^-1", 4), ("a^4", "a", 4), ("a^-1", "a^-1", 1), ("a^6 b^-4", "a^3 b^-2", 2),
            ("a^6 b^5", "a^6 b^5", 1), ("c a^9 c^-1", "c a c^-1", 9),
            ("a c a c", "a c", 2), ("a c a c^2", "a c a c^2", 1),
            ("a c a^2 c a c a^2 c", "a c a^2 c", 2), ("c^2 b c b c^2 b c b c^2 b c b", "c^2 b c b", 3),
            ("a^2 c a^2 c a^2 c", "a^2 c", 3), ("c a c a c", "c a c a c", 1), ("a^2 c a^4 c a^2", "a^2 c a^2", 2),
            (f"a^{10 ** 39} b^{10 ** 30}", f"a^{10 ** 9} b", 10 ** 30), (f"c^{-GREAT}", "c^-1", GREAT),
        ):
            self.assertEqual(root(version(text)), (version(base), power), text)
        self.assertEqual(root(EMPTY), (EMPTY, 0))
        self.assertEqual(root(Version(ONE, [("a", -6)])), (Version(ONE, [("a", -1)]), 6))

    def test_shares_with_several_powers(self):
        four = Table(list("abcde"), [(x, y) for x in "ab" for y in "cde"] + [("e", "c"), ("e", "d")])
        v = Version(four, [("a", 1), ("b", 2)] * 4 + [("c", 1), ("d", -1)] * 6 + [("e", -8)])
        base, power = root(v)
        self.assertEqual(power, 2)
        self.assertEqual(base, Version(four, [("a", 1), ("b", 2)] * 2 + [("c", 1), ("d", -1)] * 3 + [("e", -4)]))

    def test_exponents(self):
        for v, w, _ in samples(80, 65, most=3):
            for k in (-3, -1, 0, 1, 2, 5):
                power = v.power(k)
                if len(power) <= 40:
                    self.assertEqual(exponent(v, power), k if v else 0)
            found = exponent(base=v, version=w)
            near = [k for k in range(-6, 7) if v.power(k) == w]
            self.assertEqual(found, None if not near else min(near, key=abs))

    def test_exponents_where_there_is_none(self):
        for base, of in (("a", "b"), ("a^2", "a^3"), ("-", "a"), ("a c", "c a"), ("a b", "a"), ("a c a c", "a c")):
            self.assertIsNone(exponent(version(base), version(of)))
        for base, of, k in (
            ("-", "-", 0), ("a c", "-", 0), ("a^-2", "a^6", -3),
            ("a^2 b^-2", "a^-6 b^6", -3), ("c a^2 c^-1", "c a^-4 c^-1", -2),
            (f"a^{10 ** 20}", f"a^{10 ** 39}", 10 ** 19), ("a^-1", f"a^{GREAT}", -GREAT), ("a c", "c^-1 a^-1", -1),
        ):
            self.assertEqual(exponent(version(base), version(of)), k)


class TestLeads(Raising):
    def test_all_near_versions(self):
        for pairs in ([("a", "b")], [], [("a", "b"), ("b", "c")]):
            table = Table(["a", "b", "c"], pairs)
            near = all_within(table, 2) + all_within(table, 3)[40:50]
            classes = [min(round_forms(table, one.syllables)) for one in near]
            for (v, one), (w, other) in itertools.product(zip(near, classes), repeat=2):
                lead = lead_between(v, w)
                self.assertIs(lead is None, one != other)
                if lead is not None:
                    self.assertEqual(turned(v, lead), word_of(w))

    def test_versions_led_by_any_row(self):
        for v, w, x in samples(150, 66):
            for other in (~w * v * w, ~x * ~w * v * w * x, v):
                lead = lead_between(one=v, other=other)
                self.assertEqual(~lead * v * lead, other)
            lead = lead_between(v, w)
            self.assertIs(lead is None, round_form(v)[1] != round_form(w)[1])
            if v:
                self.assertIsNone(lead_between(v, ~v))
                self.assertIsNone(lead_between(Version(v.table), v))

    def test_between_a_row_and_the_row_undone_there_is_none(self):
        for text in ("a", "a c", "a b", "a c a^-1 c^-2", f"c^{GREAT}"):
            self.assertIsNone(lead_between(version(text), ~version(text)))
        self.assertEqual(str(lead_between(EMPTY, EMPTY)), "-")

    def test_other_tables(self):
        v = version("a")
        for table in (OTHER, WIDER, ONE):
            for work in (lead_between, exchangeable, exponent):
                for other in (Version(table), Version(table, [("a", 1)])):
                    self.assert_error(OtherTable, {}, work, v, other)
                    self.assert_error(OtherTable, {}, work, other, v)
                    self.assert_error(OtherTable, {}, work, other, EMPTY)
        same = Version(TURNED, [("a", 1)])
        self.assertEqual((exponent(v, same), exchangeable(v, same)), (1, True))
        self.assertEqual(~lead_between(v, same) * v * lead_between(v, same), v)


class TestLimits(Raising):
    def test_forty_syllables_with_counts_of_forty_digits(self):
        for table in (ABC, PARTNERS, PATH, BARRED):
            kinds = table.kinds
            for source in sources(8, 67):
                row = [(source.choice(kinds), source.randint(-GREAT, GREAT)) for _ in range(40)]
                v = Version(table, row)
                lead, middle = round_form(v)
                self.assertEqual(lead * middle * ~lead, v)
                base, power = root(v)
                self.assertEqual(base.power(power), v)
                w = Version(table, row[20:] + row[:20])
                lead = lead_between(v, w)
                self.assertEqual(~lead * v * lead, w)

    def test_returned_versions_with_sixty_syllables_more(self):
        for v, w, x in samples(30, 68, most=30, greatest=GREAT):
            start = w * v * ~w
            lead, middle = round_form(start)
            self.assertEqual(lead * middle * ~lead, start)
            if len(lead) <= 100:
                self.assertEqual(root(lead)[0].power(root(lead)[1]), lead)
                found, inner = round_form(lead)
                self.assertEqual(found * inner * ~found, lead)

    def test_there_is_a_lead_within_the_limit(self):
        """Kinds in a chain, the most of the syllables far from the one that has to come to the front."""
        ends = [alternating("k", "l", 88), alternating("b", "a", 88)]
        walks = [[(kind, 1) for kind in KINDS], [(kind, 1) for kind in KINDS[::-1]]]
        found = []
        for end, walk, ahead in itertools.product(ends, walks, (True, False)):
            row = end + walk if ahead else walk + end
            row[0] = (row[0][0], 2)
            found.append(Version(PATH, row))
        for v in found:
            lead, middle = round_form(v)
            self.assertEqual(lead * middle * ~lead, v)
            self.assertLessEqual(len(lead), 700)
            for _ in range(400):
                first = v.layers[0][-1]
                v = Version(PATH, [(first[0], -first[1]), *v.syllables, first])
            for w in found:
                if round_form(w)[1] == middle:
                    lead = lead_between(w, v)
                    self.assertEqual(~lead * w * lead, v)
                    self.assertLessEqual(len(lead), 700)


class TestExchange(Raising):
    def test_exchangeable(self):
        for pairs in ([("a", "b")], [], [("a", "b"), ("b", "c")]):
            table = Table(["a", "b", "c"], pairs)
            near = all_within(table, 2)
            for v, w in itertools.product(near, repeat=2):
                expected = times(table, word_of(v), word_of(w)) == times(table, word_of(w), word_of(v))
                self.assertIs(exchangeable(one=v, other=w), expected)

    def test_exchangeable_versions_with_products_beyond_the_limit(self):
        v = Version(ABC, alternating("a", "c", 600))
        self.assertIs(exchangeable(v, v), True)
        self.assertIs(exchangeable(v, Version(ABC, alternating("c", "a", 600))), False)

    def test_exactly_those_that_exchanging_describes(self):
        for pairs in ([("a", "b")], [], [("a", "b"), ("b", "c")], [("a", "b"), ("a", "c"), ("b", "c")]):
            table = Table(["a", "b", "c"], pairs)
            near = all_within(table, 3)
            for v in near[::12]:
                lead, roots, kinds = exchanging(v)
                for w in near:
                    self.assertIs(self.described(~lead * w * lead, roots, kinds), exchangeable(v, w))

    def described(self, version_there, roots, kinds):
        """Whether a version is a product of powers of the roots and a version of these kinds."""
        rest = version_there.only(*kinds)
        for base in roots:
            power = exponent(base, version_there.only(*base.kinds))
            if power is None:
                return False
            rest = rest * base.power(power)
        return rest == version_there

    def test_what_it_returns(self):
        for v, w, _ in samples(120, 69):
            table = v.table
            one = ~w * v * w
            lead, roots, kinds = exchanging(version=one)
            middle = round_form(one)[1]
            self.assertEqual(lead * middle * ~lead, one)
            groups = groups_of(table, middle.kinds)
            self.assertEqual(roots, tuple(root(middle.only(*group))[0] for group in groups))
            self.assertEqual(kinds, tuple(
                kind for kind in table.kinds if all(table.free(kind, other) for other in middle.kinds)))
            for name in (roots, kinds):
                self.assertIs(type(name), tuple)

    def test_some(self):
        self.assertEqual(exchanging(EMPTY), (EMPTY, (), ("a", "b", "c")))
        lead, roots, kinds = exchanging(version("b^-4 a^6"))
        self.assertEqual([str(one) for one in roots], ["a", "b^-1"])
        self.assertEqual((kinds, ~lead * version("b^-4 a^6") * lead), ((), version("b^-4 a^6")))
        self.assertEqual(exchanging(version("a^2"))[1:], ((version("a"),), ("b",)))
        self.assertEqual(exchanging(version("a c a c"))[1:], ((version("a c"),), ()))
        every = Version(FREE, [("c", 2), ("l", -3)])
        kinds = tuple(kind for kind in KINDS if kind not in "cl")
        self.assertEqual(exchanging(every)[1:], ((Version(FREE, [("c", 1)]), Version(FREE, [("l", -1)])), kinds))
        self.assertEqual(exchanging(Version(ONE, [("a", 5)]))[1:], ((Version(ONE, [("a", 1)]),), ()))

    def test_the_same_call_returns_an_equal_result(self):
        v = version("a c b a c^2 a^-1 b^-3")
        before = [round_form(v), root(v), exchanging(v), lead_between(v, version("b^-2 c b a c^2"))]
        round_form(~v), root(v.power(2)), exchanging(EMPTY)
        self.assertEqual([round_form(v), root(v), exchanging(v), lead_between(v, version("b^-2 c b a c^2"))], before)
