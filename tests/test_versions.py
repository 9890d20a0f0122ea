"""Tests of [4], [8] to [12], [19] and [20]: versions, and of [1] to [3] as far as they concern them."""

import itertools

from helping import ABC, BARRED, FREE, GREAT, KINDS, ONE, OTHER, PARTNERS, TURNED, WIDER
from helping import Raising, alternating, row_of, version
from reference import (
    NAMES, all_beginnings, cancelled, formed, hanging_pairs, layered, normal, random_pairs, random_syllables,
    sources, times, turns_of, undone, word_of, words_within,
)
from undoamid.errors import Barred, NoDeed, OtherTable, TooMany, UnknownKind
from undoamid.rows import Row
from undoamid.tables import Table
from undoamid.versions import LIMIT, Version

EMPTY = Version(ABC)


def samples(number, seed, most=7):
    """Tables with the syllables of three rows over each."""
    for source in sources(number, seed):
        kinds = list(NAMES[:source.randint(1, 5)])
        table = Table(kinds, random_pairs(source, kinds, source.choice([0, 2, 5, 8, 10])))
        yield table, [random_syllables(source, kinds, most) for _ in range(3)]


class TestMaking(Raising):
    def test_example_of_section_8(self):
        v = Version(ABC, [("b", 1), ("a", 2), ("c", 1), ("c", -1), ("a", 3)])
        self.assertEqual(v.syllables, (("a", 5), ("b", 1)))
        self.assertEqual(v.layers, ((("a", 5), ("b", 1)),))
        self.assertEqual(v.turns, 6)
        w = Version(ABC, [("a", 3), ("c", 2)])
        self.assertEqual(str(v & w), "a^3")
        self.assertIs((v & w).begins(v), True)
        self.assertEqual(str(~w), "c^-2 a^-3")
        self.assert_error(Barred, {"one": ("a", 2), "other": ("c", 2)}, lambda: v | w)

    def test_empty_versions(self):
        for empty in (
            EMPTY, Version(ABC, []), Version(table=ABC, syllables=()), version("a^0"), version("a a^-1"),
            version("c^2 a^5 b a^-5 b^-1 c^-2"), Version.of(Row(ABC)), version("c a^0 b^0 c^-1"),
        ):
            self.assertEqual((empty.syllables, empty.layers, empty.kinds, empty.last), ((), (), (), ()))
            self.assertEqual((len(empty), empty.turns, str(empty)), (0, 0, "-"))
            self.assertIs(bool(empty), False)
            self.assertEqual(empty.row, Row(ABC))
            self.assertEqual(empty, EMPTY)

    def test_attributes(self):
        v = Version(table=ABC, syllables=(("c", 1), ("b", 2), ("a", -3), ("b", 1), ("c", -4), ("a", 1)))
        self.assertEqual(v.table, ABC)
        self.assertEqual(v.syllables, (("c", 1), ("a", -3), ("b", 3), ("c", -4), ("a", 1)))
        self.assertEqual(v.layers, ((("c", 1),), (("a", -3), ("b", 3)), (("c", -4),), (("a", 1),)))
        self.assertEqual(v.kinds, ("a", "b", "c"))
        self.assertEqual(v.row, Row(ABC, v.syllables))
        self.assertEqual(v.last, (("a", 1),))
        self.assertEqual((v.turns, len(v), bool(v)), (12, 5, True))
        self.assertEqual(str(v), "c a^-3 b^3 c^-4 a")
        self.assertIs(type(v.layers), tuple)
        self.assertEqual({type(layer) for layer in v.layers}, {tuple})
        self.assertIs(type(v.row), Row)
        self.assertTrue({"table", "syllables", "layers", "kinds", "row", "last"} <= set(vars(v)))

    def test_the_last_ones_are_ascending(self):
        self.assertEqual(version("b c b^2 a^3").last, (("a", 3), ("b", 2)))
        self.assertEqual(version("b a").last, (("a", 1), ("b", 1)))
        self.assertEqual(Version(FREE, [("l", 1), ("b", 2), ("e", 3)]).last, (("b", 2), ("e", 3), ("l", 1)))
        self.assertEqual(Version(PARTNERS, row_of("a d b c")).last, (("b", 1), ("c", 1)))

    def test_of_a_row(self):
        row = Row(ABC, row_of("b a c c^-1 a"))
        self.assertEqual(Version.of(row), version("a^2 b"))
        self.assertEqual(Version.of(row=row).syllables, (("a", 2), ("b", 1)))
        self.assertEqual(row.syllables, tuple(row_of("b a c c^-1 a")))

    def test_all_kinds_free_and_all_barred(self):
        syllables = [(kind, count) for count in (1, 2, -4) for kind in reversed(KINDS)]
        self.assertEqual(Version(FREE, syllables).layers, (tuple((kind, -1) for kind in KINDS),))
        self.assertEqual(Version(BARRED, syllables).syllables, tuple(syllables))
        self.assertEqual(Version(BARRED, syllables).layers, tuple((one,) for one in syllables))
        undoing = [*syllables, *((kind, -count) for kind, count in reversed(syllables))]
        self.assertEqual(Version(BARRED, undoing).syllables, ())
        self.assertEqual(Version(ONE, [("a", 5), ("a", 0), ("a", -7)]).syllables, (("a", -2),))

    def test_great_counts(self):
        v = version(f"a^{GREAT} c^{GREAT} b^{-GREAT} c^{-GREAT} a")
        self.assertEqual(v.turns, 4 * GREAT + 1)
        self.assertEqual((v * ~v).syllables, ())
        self.assertEqual(version(f"a^{GREAT} a^{GREAT}").syllables, (("a", 2 * GREAT),))
        self.assertEqual(version(f"a^{GREAT} b a^{1 - GREAT}").syllables, (("a", 1), ("b", 1)))

    def test_rows_of_sixty_and_of_four_hundred_syllables(self):
        for size in (60, 400):
            v = Version(PARTNERS, [(KINDS[at % 12], at - 7) for at in range(size)])
            # The count 0 goes, and the two syllables around it melt.
            self.assertEqual(len(v), size - 2)
            self.assertEqual(v.syllables, Version.of(v.row).syllables)
            self.assertEqual(len(v * ~v), 0)

    def test_unknown_kinds(self):
        self.assert_error(UnknownKind, {"name": "x"}, Version, ABC, [("a", 1), ("x", 0), ("y", 1)])
        self.assert_error(UnknownKind, {"name": ""}, Version, ABC, (("", 1),))
        self.assert_error(UnknownKind, {"name": "A"}, Version, ABC, [("A", 1), ("x", 1)])

    def test_the_limit(self):
        self.assertEqual(LIMIT, 1000)
        self.assertEqual(len(Version(ABC, alternating("a", "c", 1000))), 1000)
        self.assert_error(TooMany, {"count": 1000}, Version, ABC, alternating("a", "c", 1001))
        self.assert_error(TooMany, {"count": 1000}, Version.of, Row(ABC, alternating("a", "c", 1001)))
        longer = [*alternating("a", "c", 1001), ("x", 1)]
        self.assert_error(UnknownKind, {"name": "x"}, Version, ABC, longer)

    def test_only_what_is_left_counts_for_the_limit(self):
        row = Row(ABC, alternating("a", "c", 1500))
        self.assertEqual(len(Version.of(row + ~row)), 0)
        self.assertEqual(len(Version.of(row + Row(ABC, (~row).syllables[:500]))), 1000)
        self.assertEqual(len(Version.of(Row(ABC, alternating("a", "b", 4001)))), 2)

    def test_later_changes_of_a_list_have_no_effect(self):
        syllables = [("a", 1), ("c", 2)]
        v = Version(ABC, syllables)
        syllables.append(("a", 1))
        syllables[0] = ("b", 7)
        self.assertEqual(v.syllables, (("a", 1), ("c", 2)))
        self.assertEqual(v.row.syllables, (("a", 1), ("c", 2)))
        kept = [("c", 1), ("a", 0), ("c", -1)]
        Version(ABC, kept)
        self.assertEqual(kept, [("c", 1), ("a", 0), ("c", -1)])

    def test_objects_do_not_change(self):
        v, w = version("a c b^2"), version("a^2 b")
        before = [dict(vars(one)) for one in (v, w)]
        results = []
        for _ in range(2):
            results.append([
                v * w, ~v, v & w, v.power(3), v.only("a"), v.without("a"), v.begins(w), v.hangs(1, 0), str(v),
                v.under(TURNED), v == w, bool(v), len(v), v.turns,
            ])
        self.assertEqual(results[0], results[1])
        self.assertEqual([dict(vars(one)) for one in (v, w)], before)


class TestForms(Raising):
    def test_layers_and_forms_are_as_described(self):
        for table, rows in samples(120, 1):
            for syllables in rows:
                v = Version(table, syllables)
                with self.subTest(pairs=table.pairs, syllables=syllables):
                    self.assertEqual(v.layers, layered(table, turns_of(syllables)))
                    self.assertEqual(v.syllables, formed(table, turns_of(syllables)))
                    self.assertEqual(v.turns, len(normal(table, turns_of(syllables))))
                    self.assertEqual(v.kinds, tuple(sorted({kind for kind, _ in v.syllables})))
                    self.assertEqual(len(v), len(v.syllables))

    def test_hangs_and_last_ones(self):
        for table, rows in samples(80, 2, most=9):
            v = Version(table, rows[0])
            pairs = hanging_pairs(table, v.syllables)
            with self.subTest(pairs=table.pairs, syllables=v.syllables):
                for at, on in itertools.product(range(len(v)), repeat=2):
                    self.assertIs(v.hangs(at, on), (at, on) in pairs)
                used = {early for _, early in pairs}
                lasts = [one for at, one in enumerate(v.syllables) if at not in used]
                self.assertEqual(v.last, tuple(sorted(lasts)))

    def test_hangs_of_same_kinds_barred_kinds_and_chains(self):
        v = Version(PARTNERS, row_of("a b a c d"))
        self.assertEqual(v.syllables, tuple(row_of("a c b d a")))
        self.assertEqual([v.hangs(at, 0) for at in range(5)], [False, False, True, False, True])
        self.assertEqual([v.hangs(4, on) for on in range(5)], [True, False, True, False, False])
        self.assertEqual([v.hangs(at, 1) for at in range(5)], [False, False, False, True, False])
        self.assertIs(version("a c b").hangs(at=2, on=0), True)
        self.assertIs(version("a c b").hangs(at=0, on=2), False)

    def test_hangs_of_indexes_beyond(self):
        v = version("a c b")
        for at, on, wrong in ((-1, 0, -1), (0, -1, -1), (3, 9, 3), (2, 3, 3), (10 ** 40, -1, 10 ** 40), (0, -3, -3)):
            self.assert_error(NoDeed, {"at": wrong}, v.hangs, at, on)
        self.assertIs(v.hangs(2, 2), False)
        self.assert_error(NoDeed, {"at": 0}, EMPTY.hangs, 0, 0)


class TestProducts(Raising):
    def test_products_and_undone_versions(self):
        for table, rows in samples(80, 3):
            words = [normal(table, turns_of(row)) for row in rows]
            v, w, x = [Version(table, row) for row in rows]
            with self.subTest(pairs=table.pairs, rows=rows):
                self.assertEqual(word_of(v * w), times(table, words[0], words[1]))
                self.assertEqual(word_of(~v), normal(table, undone(words[0])))
                self.assertEqual((v * w) * x, v * (w * x))
                self.assertEqual(v * Version(table), v)
                self.assertEqual(~(v * w), ~w * ~v)
                self.assertEqual(~~v, v)

    def test_a_row_that_undoes_itself(self):
        v = version("c a^2 b^-1 c^3")
        self.assertEqual((v * ~v).syllables, ())
        self.assertEqual(Version.of(v.row + ~v.row), EMPTY)

    def test_products_beyond_the_limit(self):
        v, w = Version(ABC, alternating("a", "c", 600)), Version(ABC, alternating("a", "c", 400))
        self.assertEqual(len(v * w), 1000)
        more = Version(ABC, alternating("a", "c", 401))
        self.assert_error(TooMany, {"count": 1000}, lambda: v * more)
        self.assertEqual(len(~v * v), 0)

    def test_products_over_other_tables(self):
        for table in (OTHER, WIDER, ONE):
            self.assert_error(OtherTable, {}, lambda: version("a") * Version(table, [("a", 1)]))
        longer = Version(OTHER, alternating("a", "b", 900))
        self.assert_error(OtherTable, {}, lambda: Version(ABC, alternating("a", "c", 900)) * longer)
        self.assertEqual((version("a") * Version(TURNED, [("b", 1)])).syllables, (("a", 1), ("b", 1)))


class TestPowers(Raising):
    def test_powers_are_products(self):
        for table, rows in samples(60, 4, most=5):
            for row in rows:
                v, product, undoing = Version(table, row), Version(table), Version(table)
                with self.subTest(pairs=table.pairs, row=row):
                    for exponent in range(6):
                        self.assertEqual(v.power(exponent), product)
                        self.assertEqual(v.power(exponent=-exponent), undoing)
                        product, undoing = product * v, undoing * ~v

    def test_great_exponents(self):
        for exponent in (10 ** 18, -10 ** 18, 10 ** 18 - 1):
            self.assertEqual(version("a^3").power(exponent).syllables, (("a", 3 * exponent),))
            self.assertEqual(EMPTY.power(exponent), EMPTY)
            great = version(f"a^{GREAT} b^-2").power(exponent)
            self.assertEqual(great.syllables, (("a", GREAT * exponent), ("b", -2 * exponent)))
            turned = version("c a^2 b c^-1").power(exponent)
            self.assertEqual(turned.syllables, (("c", 1), ("a", 2 * exponent), ("b", exponent), ("c", -1)))
            self.assertEqual(version("a c a^-1").power(exponent), version(f"a c^{exponent} a^-1"))
            everything = Version(FREE, [(kind, 1) for kind in KINDS]).power(exponent)
            self.assertEqual(everything.syllables, tuple((kind, exponent) for kind in KINDS))

    def test_great_exponents_with_too_many_syllables(self):
        for text in ("a c", "c a^5 c^-1 a", "a c b^-1 c^-1", "c a c b c^-2", f"a^{GREAT} c"):
            for exponent in (10 ** 18, -10 ** 18, 10 ** 9, -10 ** 9, 1001, -1001):
                self.assert_error(TooMany, {"count": 1000}, version(text).power, exponent)

    def test_a_great_exponent_of_a_version_with_a_long_lead(self):
        lead = Version(ABC, alternating("a", "c", 400))
        long = lead * version("b") * ~lead
        self.assertEqual(len(long), 801)
        for exponent in (10 ** 18, -10 ** 18, 2, -1):
            self.assertEqual(long.power(exponent), lead * version(f"b^{exponent}") * ~lead)
        longer = lead * version("b c") * ~lead
        self.assert_error(TooMany, {"count": 1000}, longer.power, 10 ** 18)

    def test_great_exponents_with_a_result_of_just_so_many_syllables(self):
        lead = alternating("c", "a", 499)
        back = [(kind, -count) for kind, count in reversed(lead)]
        v = Version(ABC, [*lead, ("a", 1), ("b", -2), *back])
        for exponent in (10 ** 18, -10 ** 18, 1, -1):
            result = v.power(exponent)
            self.assertEqual(result.syllables, (*lead, ("a", exponent), ("b", -2 * exponent), *back))
            self.assertEqual(len(result), 1000)
        self.assertEqual(v.power(0), EMPTY)

    def test_powers_of_just_so_many_syllables(self):
        self.assertEqual(len(version("a c").power(500)), 1000)
        self.assertEqual(len(version("a c").power(-500)), 1000)
        self.assert_error(TooMany, {"count": 1000}, version("a c").power, 501)
        turned = version("c a c b c^-2")
        self.assertEqual(turned.power(1), turned)
        for exponent in (2, 249, -2, -249):
            factor = row_of("a c b c^-1") if exponent > 0 else row_of("c b^-1 c^-1 a^-1")
            expected = [("c", 1), *(factor * abs(exponent)), ("c", -1)]
            self.assertEqual(turned.power(exponent), Version(ABC, expected))

    def test_powers_at_the_limit_with_leads(self):
        # Each of these powers has so many syllables, the next one more than 1,000.
        for text, exponent, size in (
            ("a c a", 499, 999), ("b a c", 333, 999), ("c^-1 a c^2 a c^-1", 249, 997), ("c a c b c^-2", 249, 997),
            ("a b c a", 333, 1000), ("c a c^-1 b", 250, 1000),
        ):
            v = version(text)
            for sign in (1, -1):
                result = v.power(sign * exponent)
                self.assertEqual(len(result), size)
                self.assertEqual(result, Version(ABC, row_of(text) * exponent).power(sign))
                beyond = [*row_of(text) * exponent, *row_of(text)]
                self.assert_error(TooMany, {"count": 1000}, Version, ABC, beyond)
                self.assert_error(TooMany, {"count": 1000}, v.power, sign * (exponent + 1))


class TestLeavingOut(Raising):
    def test_only_and_without(self):
        v = version("a c b a^2 c^-1")
        self.assertEqual(v.only("a"), version("a^3"))
        self.assertEqual(v.only("a", "b"), version("a^3 b"))
        self.assertEqual(v.without("b"), version("a c a^2 c^-1"))
        self.assertEqual(v.without("a", "b"), EMPTY)
        self.assertEqual((v.only(), v.without()), (EMPTY, v))
        self.assertEqual((v.only("b", "c", "a", "a"), v.without("b", "b")), (v, v.without("b")))
        self.assertEqual((EMPTY.only("c"), EMPTY.without("c")), (EMPTY, EMPTY))

    def test_they_leave_out_of_any_row(self):
        for table, rows in samples(60, 5):
            v = Version(table, rows[0])
            for kinds in itertools.chain([()], itertools.combinations(table.kinds, 1), [table.kinds[1:]]):
                word = [turn for turn in turns_of(rows[0]) if turn[0] in kinds]
                rest = [turn for turn in turns_of(rows[0]) if turn[0] not in kinds]
                self.assertEqual(word_of(v.only(*kinds)), normal(table, word))
                self.assertEqual(word_of(v.without(*kinds)), normal(table, rest))

    def test_unknown_kinds(self):
        v = version("a c")
        for work in (v.only, v.without, EMPTY.only, EMPTY.without):
            self.assert_error(UnknownKind, {"name": "x"}, work, "a", "x", "y")
            self.assert_error(UnknownKind, {"name": ""}, work, "")
            self.assert_error(UnknownKind, {"name": "ab"}, work, "ab", "x")

    def test_under_another_table(self):
        v = version("a c b a")
        under = v.under(OTHER)
        self.assertEqual(under.table, OTHER)
        self.assertEqual(under.syllables, (("a", 2), ("c", 1), ("b", 1)))
        self.assertEqual(version("b a").under(Table(["a", "b", "c"])).syllables, (("a", 1), ("b", 1)))
        everything = Table(["a", "b", "c"], [("a", "b"), ("b", "c"), ("c", "a")])
        self.assertEqual(v.under(table=everything).syllables, (("a", 2), ("b", 1), ("c", 1)))
        self.assertEqual(v.under(TURNED), v)

    def test_under_a_table_with_other_kinds(self):
        for table in (WIDER, ONE, Table(["a", "b", "d"])):
            self.assert_error(OtherTable, {}, version("a").under, table)
            self.assert_error(OtherTable, {}, EMPTY.under, table)


class TestComparing(Raising):
    def test_equal_versions(self):
        self.assertEqual(version("a b"), version("b a"))
        self.assertEqual(version("a b"), Version(TURNED, [("b", 1), ("a", 1)]))
        self.assertIs(version("a b") == version("b a"), True)
        self.assertIs(version("a c") == version("c a"), False)
        self.assertIs(version("a c") != version("c a"), True)
        self.assertNotEqual(version("a"), version("a^2"))

    def test_versions_of_other_tables(self):
        for table in (OTHER, WIDER):
            self.assertNotEqual(version("a"), Version(table, [("a", 1)]))
            self.assertNotEqual(EMPTY, Version(table))

    def test_nothing_else_is_equal(self):
        v = version("a")
        for other in (v.row, v.syllables, str(v), None, 0, [], (), {}, "a", True, ABC, EMPTY.row):
            self.assertIs(v == other, False)
            self.assertIs(EMPTY == other, False)


class TestBeginnings(Raising):
    def test_beginnings(self):
        for table, rows in samples(60, 6, most=5):
            v, w, _ = [Version(table, row) for row in rows]
            shared = all_beginnings(table, word_of(v)) & all_beginnings(table, word_of(w))
            with self.subTest(pairs=table.pairs, rows=rows):
                self.assertIs(v.begins(w), word_of(v) in all_beginnings(table, word_of(w)))
                self.assertIs(w.begins(other=v), word_of(w) in all_beginnings(table, word_of(v)))
                self.assertEqual(word_of(v & w), max(shared, key=len))
                self.assertEqual(v & w, w & v)
                for word in shared:
                    self.assertTrue(Version(table, word).begins(v & w))

    def test_beginnings_of_beginnings(self):
        for source in sources(60, 7):
            table = Table(list("abcd"), random_pairs(source, "abcd", 5))
            x = Version(table, random_syllables(source, "abcd", 6))
            y = Version(table, random_syllables(source, "abcd", 6))
            v, w = x * Version(table, [("a", 2), ("b", 1)]), x * y
            self.assertEqual(word_of(v & w), max(
                all_beginnings(table, word_of(v)) & all_beginnings(table, word_of(w)), key=len))

    def test_signs_and_parts_of_syllables(self):
        for one, other, shared in (
            ("a^5", "a^3", "a^3"), ("a^-5", "a^-3", "a^-3"), ("a^5", "a^-3", "-"), ("a^2 c", "a^3 c", "a^2"),
            ("a^2 b^-1 c", "b^-2 a^4 c", "a^2 b^-1"), ("a c b", "a c a", "a c"), ("a c^2 a", "a c^3 a", "a c^2"),
            ("a b c", "b c", "b"), ("c a", "c^-1 a", "-"), ("a b c a", "a c a", "a"), ("-", "a", "-"),
        ):
            v, w = version(one), version(other)
            self.assertEqual((str(v & w), str(w & v)), (shared, shared))

    def test_great_counts(self):
        v, w = version(f"a^{GREAT} c^{-GREAT}"), version(f"a^{GREAT} c^{1 - GREAT} b")
        self.assertEqual(v & w, version(f"a^{GREAT} c^{1 - GREAT}"))
        self.assertIs(version(f"a^{GREAT - 1}").begins(v), True)
        self.assertEqual(version(f"a^{GREAT}") | version("b^2 a"), version(f"a^{GREAT} b^2"))

    def test_begins_at_the_limit(self):
        v, w = Version(ABC, alternating("a", "c", 1000)), Version(ABC, alternating("c", "a", 1000))
        self.assertIs(v.begins(w), False)
        self.assertIs(v.begins(v), True)
        self.assertEqual(v & w, EMPTY)
        self.assertIs(EMPTY.begins(v), True)
        self.assertIs(v.begins(EMPTY), False)


class TestJoins(Raising):
    def test_joins(self):
        for table, rows in samples(120, 8, most=3):
            v, w, _ = [Version(table, row) for row in rows]
            shared = v & w
            p, q = ~shared * v, ~shared * w
            barred = [
                (one, other) for one in p.syllables for other in q.syllables
                if one[0] == other[0] or table.barred(one[0], other[0])
            ]
            with self.subTest(pairs=table.pairs, rows=rows):
                if barred:
                    one, other = barred[0]
                    self.assert_error(Barred, {"one": one, "other": other}, lambda: v | w)
                else:
                    self.assertEqual(v | w, shared * p * q)
                    self.assertEqual(v | w, w | v)
                    self.assertTrue(v.begins(v | w) and w.begins(v | w))

    def test_joins_are_the_least(self):
        table = Table(["a", "b", "c"], [("a", "b")])
        near = words_within(table, table.kinds, 4)
        above = {word: {end for end in near if word in all_beginnings(table, end)} for word in words_within(
            table, table.kinds, 2)}
        for one, other in itertools.product(sorted(above), repeat=2):
            v, w = Version(table, one), Version(table, other)
            ends = above[one] & above[other]
            if ends:
                least = min(ends, key=len)
                self.assertEqual(word_of(v | w), least)
                self.assertTrue(all(least in all_beginnings(table, end) for end in ends))
            else:
                with self.assertRaises(Barred):
                    v | w

    def test_which_syllables_are_barred(self):
        for one, other, told in (
            ("a^3", "a^-2", (("a", 3), ("a", -2))), ("a^-2", "c", (("a", -2), ("c", 1))),
            ("b^2 c", "a^2 c^5", (("b", 2), ("c", 5))), ("a^2 c", "a^3 b", (("c", 1), ("a", 1))),
            ("a b c", "a^3 b^2 c^-1", (("c", 1), ("a", 2))),
        ):
            v, w = version(one), version(other)
            self.assert_error(Barred, dict(zip(("one", "other"), told)), lambda: v | w)
        v, w = Version(PARTNERS, row_of("a^2 c e^3 b")), Version(PARTNERS, row_of("g i d^2 f^-1 d"))
        self.assertEqual(w.syllables, tuple(row_of("d^3 f^-1 g i")))
        self.assert_error(Barred, {"one": ("c", 1), "other": ("d", 3)}, lambda: v | w)
        self.assert_error(Barred, {"one": ("d", 3), "other": ("c", 1)}, lambda: w | v)

    def test_what_one_of_two_has_more(self):
        for one, other, told in (
            ("a", "a^4", "a^4"), ("a^2 b", "a b^2", "a^2 b^2"), ("a^-2", "a^-5 c", "a^-5 c"),
            ("a^-5", "a^-5 c", "a^-5 c"),
            ("a c b", "a c b^3", "a c b^3"), ("a c a", "a c b", "a c a b"), ("a c a^2", "a c a b^2", "a c a^2 b^2"),
            ("a c a^2 c", "a c a b^2", None), ("a c", "a^2 c", None), ("a^2", "a c", None), ("a", "a c a c", "a c a c"),
            ("b c a", "b a c", None), ("b c", "a b c", None), ("a c b", "a c b^-1", None), ("a c^2", "a c b", None),
            ("a c^2 b", "a c^2", "a c^2 b"), ("a c a c", "a c b c", None), ("a c a c a", "a c", "a c a c a"),
            ("a^2 c a", "a c a", None), ("a^2 c a^3", "a c a", None), ("a b c a", "b c", None),
        ):
            v, w = version(one), version(other)
            with self.subTest(one=one, other=other):
                if told is None:
                    for pair in ((v, w), (w, v)):
                        with self.assertRaises(Barred):
                            pair[0] | pair[1]
                else:
                    self.assertEqual((str(v | w), str(w | v)), (str(version(told)), str(version(told))))
        told = {"one": ("c", 1), "other": ("a", 1)}
        self.assert_error(Barred, told, lambda: version("b c a") | version("b a c"))

    def test_joins_beyond_the_limit(self):
        v, w = Version(PARTNERS, alternating("a", "b", 600)), Version(PARTNERS, alternating("c", "d", 400))
        self.assertEqual(len(v | w), 1000)
        more = Version(PARTNERS, alternating("c", "d", 401))
        self.assert_error(TooMany, {"count": 1000}, lambda: v | more)
        barred = more * Version(PARTNERS, [("a", -1)])
        self.assert_error(Barred, {"one": ("a", 1), "other": ("a", -1)}, lambda: v | barred)

    def test_other_tables(self):
        v = version("a c")
        for table in (OTHER, WIDER, ONE):
            w = Version(table, [("a", -1)])
            self.assert_error(OtherTable, {}, v.begins, w)
            self.assert_error(OtherTable, {}, lambda: v & w)
            self.assert_error(OtherTable, {}, lambda: v | w)
        same = Version(TURNED, [("a", 1)])
        self.assertIs(same.begins(v), True)
        self.assertEqual((v & same, v | same), (version("a"), v))


class TestCancelling(Raising):
    def test_the_reference_itself(self):
        """Turns that undo each other go, whatever stands between them that may change places with them."""
        self.assertEqual(cancelled(ABC, turns_of(row_of("a b a^-1"))), (("b", 1),))
        self.assertEqual(len(cancelled(ABC, turns_of(row_of("a c a^-1")))), 3)
        self.assertEqual(formed(ABC, turns_of(row_of("b a c b"))), tuple(row_of("a b c b")))
