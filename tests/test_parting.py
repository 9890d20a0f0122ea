"""Tests of [12], [13] "One form", and [30] to [33]: parts, and stores that lead versions apart."""

import itertools
import math

from helping import ABC, BARRED, FREE, GREAT, KINDS, ONE, OTHER, PARTNERS, TURNED, WIDER
from helping import HELD, Raising, alternating, version
from reference import NAMES, all_parts, formed, led, random_pairs, random_syllables, sources, turns_of, undone, word_of
from undoamid.errors import OtherTable, TooMany
from undoamid.parting import core, count_parts, count_standings, parted, parts
from undoamid.rows import Row
from undoamid.stores import Store
from undoamid.tables import Table
from undoamid.versions import Version

EMPTY = Version(ABC)


def samples(number, seed, most=6, greatest=3):
    """Pairs of versions, each over some table."""
    for source in sources(number, seed):
        kinds = list(NAMES[:source.randint(1, 5)])
        table = Table(kinds, random_pairs(source, kinds, source.choice([0, 3, 5, 8, 10])))
        yield [Version(table, random_syllables(source, kinds, most, greatest)) for _ in range(2)]


def told_core(one, other):
    """The form of [30] with words, and leaving out as it is told there."""
    table = one.table
    word = list(undone(word_of(one))) + list(word_of(other))
    for kind in sorted({kind for kind, _ in formed(table, word)}):
        rest = [turn for turn in word if turn[0] != kind]
        if formed(table, rest):
            word = rest
    return formed(table, word)


def told_standings(table, form):
    """The number of [31], by its words."""
    pieces = []
    for part in all_parts(table, form):
        larger = [more for more in all_parts(table, form) if len(more) == len(part) + 1 and set(part) < set(more)]
        nexts = [at for more in larger for at in more if at not in part]
        pieces.append(math.prod([next(m for m in itertools.count(2) if form[at][1] % m) - 1 for at in nexts]))
    return sum(pieces)


class TestCore(Raising):
    def test_example_of_section_13(self):
        one, other = version("a c"), version("c a b^3")
        self.assertEqual(str(core(one, other)), "b^3")
        store, standing = parted(one, other)
        self.assertEqual(store.size, 2)
        self.assertIs(store.keeps(ABC), True)
        self.assertNotEqual(store(one, standing), store(other, standing))

    def test_kinds_are_left_out_one_by_one(self):
        for one, other in samples(150, 51):
            found = core(one=one, other=other)
            self.assertIs(type(found), Version)
            self.assertEqual((found.table, found.syllables), (one.table, told_core(one, other)))
            self.assertIs(bool(found), one != other)

    def test_the_least_kinds_go_first(self):
        self.assertEqual(str(core(EMPTY, version("a b c"))), "c")
        self.assertEqual(str(core(version("a b"), EMPTY)), "b^-1")
        self.assertEqual(str(core(EMPTY, version("a c a^-1 c^-1"))), "a c a^-1 c^-1")
        self.assertEqual(str(core(EMPTY, version("b a c a^-1 c^-1"))), "b")
        self.assertEqual(str(core(EMPTY, version("a b c a^-1 b^-1 c^-1"))), "b c b^-1 c^-1")
        # Behind b and c, a may not be left out; ahead of them it may.
        twice = Version(BARRED, [("a", 1), ("b", 1), ("a", -1), ("b", -1), ("c", 1), ("b", 1), ("a", 1), ("b", -1),
                                 ("a", -1), ("c", -1)])
        self.assertEqual(core(Version(BARRED), twice), twice)

    def test_equal_versions(self):
        for v in (EMPTY, version("a c b"), version(f"c^{GREAT}")):
            self.assertEqual(core(v, version(str(v))), EMPTY)
            self.assertIsNone(parted(v, version(str(v))))
            self.assertIsNone(parted(one=v, other=v, most=1))
        self.assertEqual(core(version("a b"), version("b a")), EMPTY)
        self.assertIsNone(parted(version("a b"), version("b a")))

    def test_the_limit_counts_only_for_the_core(self):
        one = Version(ABC, [*alternating("a", "c", 899), ("b", 1)])
        other = Version(ABC, [*alternating("c", "a", 899), ("b", -1)])
        self.assertEqual(str(core(one, other)), "c")
        gap = Version(ABC, alternating("a", "c", 1000))
        self.assertEqual(core(gap, Version(ABC, [*gap.syllables[:-1], ("c", 2)])).syllables, (("c", 1),))
        # Every single kind can be left out of this one without a rest; so the core would be the whole.
        commutator = ("a", 1), ("c", 1), ("a", -1), ("c", -1)
        half = Version(ABC, commutator * 130)
        self.assert_error(TooMany, {"count": 1000}, core, half, ~half)
        store, standing = parted(half, ~half, most=1041)
        self.assertNotEqual(store(half, standing), store(~half, standing))
        self.assert_error(TooMany, {"count": 1040}, parted, half, ~half, most=1040)


class TestStandings(Raising):
    def test_the_sum_over_the_parts(self):
        for one, _ in samples(80, 52, greatest=7):
            expected = told_standings(one.table, one.syllables)
            self.assertEqual(count_standings(one), expected)
            self.assertEqual(count_standings(version=one, most=2000), expected)

    def test_the_least_integer_that_does_not_divide(self):
        for count, expected in (
            (1, 2), (2, 3), (-3, 2), (4, 3), (6, 4), (12, 5), (60, 7), (420, 8), (-840, 9), (2520, 11),
        ):
            self.assertEqual(count_standings(version(f"a^{count}")), expected)
        many = math.lcm(*range(1, 100))
        self.assertEqual((len(str(many)), count_standings(version(f"c^{many}"))), (41, 101))
        self.assertEqual(count_standings(EMPTY, most=1), 1)
        self.assertEqual(count_standings(version("a^6 b^60")), 3 * 6 + 3 + 6 + 1)

    def test_the_sum_may_be_greater_than_most(self):
        v = version("a^420 b^420 c")
        self.assertEqual(count_standings(v, most=5), 49 + 7 + 7 + 1 + 1)
        self.assert_error(TooMany, {"count": 4}, count_standings, v, most=4)
        wide = Version(FREE, [(kind, 420) for kind in KINDS[:10]])
        self.assertEqual(count_standings(wide), 8 ** 10)


class TestParted(Raising):
    def check(self, one, other, **named):
        """That the answer is as [32] tells, with moves done one after the other."""
        store, standing = parted(one, other, **named)
        self.assertIs(type(store), Store)
        self.assertLessEqual(store.size, count_standings(core(one, other), **named))
        moves = store.moves
        for first, second in one.table.pairs:
            if first in moves and second in moves:
                for k in range(store.size):
                    self.assertEqual(moves[first][moves[second][k]], moves[second][moves[first][k]])
        self.assertIn(standing, range(store.size))
        self.assertNotEqual(store(one, standing), store(other, standing))
        return moves, standing

    def test_all_pairs(self):
        for one, other in samples(150, 53):
            if one == other:
                self.assertIsNone(parted(one, other))
                continue
            moves, standing = self.check(one, other, most=5000)
            self.assertNotEqual(led(moves, one.syllables, standing), led(moves, other.syllables, standing))

    def test_all_near_versions(self):
        near = {Version(ABC, row).syllables for row in itertools.product(
            [(kind, count) for kind in "abc" for count in (-2, 1)], repeat=3)}
        for form in sorted(near):
            if form:
                self.check(EMPTY, Version(ABC, form))
                self.check(Version(ABC, form), version("b^5 a c"))

    def test_cores_with_several_kinds_next(self):
        """Nested commutators: when any of their kinds is left out, nothing stays."""
        many = 0
        for source in sources(150, 58):
            kinds = list(NAMES[:source.randint(3, 4)])
            table = Table(kinds, random_pairs(source, kinds, source.choice([3, 6])))
            source.shuffle(kinds)
            nested = Version(table)
            for kind in kinds:
                one = Version(table, [(kind, source.choice([1, -1, 2, 6]))])
                nested = one * nested * ~one * ~nested if nested else one
            other = Version(table, random_syllables(source, kinds, 2))
            rest = core(other, other * nested)
            if rest and count_parts(rest, most=5000) < count_standings(rest, most=5000) <= 5000:
                self.check(other, other * nested, most=5000)
                many += any(len(part) > 2 and part[:2] == (0, 1) for part in parts(rest)) and len(rest.layers[0]) > 1
        self.assertGreater(many, 10)

    def test_great_counts_and_great_versions(self):
        self.check(version(f"a^{GREAT} c^{GREAT}"), version(f"c^{GREAT} a^{GREAT}"))
        self.check(version(f"a^{GREAT}"), version(f"a^{GREAT - 1}"))
        self.check(version("c"), Version(ABC, [("c", math.lcm(*range(1, 90)) + 1)]))
        every = Version(FREE, [(kind, GREAT) for kind in KINDS])
        self.check(every, Version(FREE, [(kind, GREAT) for kind in KINDS[:-1]]))
        chain = Version(BARRED, [(KINDS[at % 12], 1) for at in range(60)])
        self.check(chain, ~chain, most=5000)
        self.check(Version(BARRED), chain * ~Version(BARRED, [("l", 1)]) * chain, most=5000)
        v = Version(ABC, alternating("a", "c", 400))
        self.check(v, Version(ABC, alternating("c", "a", 400)), most=5000)

    def test_one_kind(self):
        store, standing = parted(Version(ONE), Version(ONE, [("a", 6)]))
        self.assertLessEqual(store.size, 4)
        self.assertNotEqual(store(Version(ONE, [("a", 6)]), standing), standing)
        self.check(Version(ONE, [("a", 2)]), Version(ONE, [("a", -4)]))

    def test_just_so_many_parts_and_standings(self):
        one, other = version("a^2 c^6 b^2"), EMPTY
        # The core is b^-2 alone: two parts, three standings.
        self.assertEqual(str(core(one, other)), "c^-6")
        self.assertEqual((count_parts(core(one, other)), count_standings(core(one, other))), (2, 4))
        self.check(one, other, most=4)
        self.assert_error(TooMany, {"count": 3}, parted, one, other, most=3)
        self.assert_error(TooMany, {"count": 1}, parted, one, other, most=1)
        self.assert_error(TooMany, {"count": 3}, parted, one=one, other=other, most=3)
        for v, _ in samples(60, 54):
            if v:
                empty = Version(v.table)
                number = count_standings(core(empty, v))
                self.check(empty, v, most=number)
                if number > 1:
                    self.assert_error(TooMany, {"count": number - 1}, parted, empty, v, most=number - 1)

    def test_more_parts_or_standings_than_two_thousand(self):
        commutator = [("a", 1), ("c", 1), ("a", -1), ("c", -1)]
        v = Version(ABC, [*commutator * 100])
        self.check(EMPTY, v)
        grown = Version(ABC, [(kind, 420 * count) for kind, count in v.syllables])
        self.assertEqual(count_parts(core(EMPTY, grown)), 401)
        self.assert_error(TooMany, {"count": 2000}, parted, EMPTY, grown)
        self.check(EMPTY, grown, most=5000)

    def test_other_tables(self):
        for table in (OTHER, WIDER, ONE):
            for work in (core, parted):
                self.assert_error(OtherTable, {}, work, version("a"), Version(table, [("a", 1)]))
                self.assert_error(OtherTable, {}, work, Version(table, [("a", 1)]), version("a"))
            # OtherTable comes ahead of TooMany.
            self.assert_error(OtherTable, {}, parted, version("c^60"), Version(table, [("a", 1)]), most=1)
        self.assertIsNone(parted(version("a"), Version(TURNED, [("a", 1)])))

    def test_the_same_call_returns_an_equal_result(self):
        first = parted(version("a c"), version("c a"))
        parted(version("c"), version("a"))
        self.assertEqual(parted(version("a c"), version("c a")), first)


class TestParts(Raising):
    def test_all_parts_by_size(self):
        for one, _ in samples(120, 55):
            expected = sorted(all_parts(one.table, one.syllables), key=lambda part: (len(part), part))
            self.assertEqual(list(parts(version=one)), expected)
            self.assertEqual(count_parts(version=one), len(expected))
            self.assertEqual(count_parts(one, most=len(expected)), len(expected))
            if len(expected) > 1:
                many = len(expected) - 1
                self.assert_error(TooMany, {"count": many}, count_parts, one, most=many)
                self.assert_error(TooMany, {"count": many}, count_standings, one, most=many)

    def test_some_parts(self):
        self.assertEqual(list(parts(EMPTY)), [()])
        self.assertEqual(list(parts(version("a^5 b^-2 c"))), [(), (0,), (1,), (0, 1), (0, 1, 2)])
        self.assertEqual(count_parts(EMPTY, most=1), 1)
        self.assertTrue(all(type(part) is tuple for part in parts(version("a b c"))))

    def test_all_kinds_free_and_all_barred(self):
        every = Version(FREE, [(kind, GREAT) for kind in KINDS])
        found = list(parts(every))
        self.assertEqual(found, [part for k in range(13) for part in itertools.combinations(range(12), k)])
        self.assertEqual(count_parts(every, most=4096), 4096)
        self.assert_error(TooMany, {"count": 4095}, count_parts, every, most=4095)
        self.assert_error(TooMany, {"count": 2000}, count_parts, every)
        chain = Version(BARRED, [(KINDS[at % 12], 1) for at in range(400)])
        self.assertEqual(list(parts(chain)), [tuple(range(k)) for k in range(401)])
        self.assertEqual(count_parts(chain, most=401), 401)
        self.assert_error(TooMany, {"count": 400}, count_parts, chain, most=400)

    def test_the_first_ones_come_soon(self):
        wide = Version(PARTNERS, [(kind, 1) for _ in range(5) for kind in KINDS])
        found = list(itertools.islice(parts(wide), 1500))
        self.assertEqual(found, sorted(set(found), key=lambda part: (len(part), part)))
        self.assertEqual(found[:3], [(), (0,), (1,)])
        long = Version(PARTNERS, [(KINDS[at % 12], 1) for at in range(400)])
        self.assertEqual(len(list(itertools.islice(parts(long), 500))), 500)

    def test_leaving_and_starting_again(self):
        v = version("a b c a b")
        started = parts(v)
        first = [next(started), next(started)]
        again = list(parts(v))
        self.assertEqual([*first, *started], again)
        self.assertEqual(list(zip(parts(v), parts(v))), [(part, part) for part in again])

    def test_very_many_parts(self):
        row = [*KINDS[:10] * 39, "k", "l"]
        for table in (PARTNERS, HELD):
            wide = Version(table, [(kind, GREAT) for kind in row])
            for most in (1, 2000, 5000):
                self.assert_error(TooMany, {"count": most}, count_parts, wide, most=most)
                self.assert_error(TooMany, {"count": most}, count_standings, wide, most=most)


class TestOneForm(Raising):
    """[13]: two rows are alike exactly if their forms are equal; otherwise a store leads some standing apart."""

    def test_rows_with_equal_forms_are_led_alike_by_the_stores_of_others(self):
        stores = []
        rows = {}
        for source in sources(60, 56):
            row = Row(ABC, random_syllables(source, ["a", "b", "c"], 5))
            rows.setdefault(Version.of(row).syllables, []).append(row)
            other = Version(ABC, random_syllables(source, ["a", "b", "c"], 4))
            answer = parted(Version.of(row), other)
            if answer is not None:
                stores.append(answer[0])
        for form, alike in rows.items():
            for store in stores:
                expected = [store(Version(ABC, form), k) for k in range(store.size)]
                for row in alike:
                    self.assertEqual([store(row, k) for k in range(store.size)], expected)

    def test_words_that_differ_are_led_apart(self):
        for source in sources(60, 57):
            kinds = ["a", "b", "c", "d"]
            table = Table(kinds, random_pairs(source, kinds, 5))
            row = random_syllables(source, kinds, 5)
            swapped = list(row)
            if len(row) > 1:
                at = source.randrange(len(row) - 1)
                swapped[at:at + 2] = [row[at + 1], row[at]]
            alike = formed(table, turns_of(row)) == formed(table, turns_of(swapped))
            answer = parted(Version(table, row), Version(table, swapped), most=5000)
            self.assertIs(answer is None, alike)
