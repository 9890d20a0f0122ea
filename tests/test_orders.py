"""Tests of [24]: the orders of a version."""

import itertools
import math

from helping import ABC, BARRED, FREE, GREAT, HELD, KINDS, ONE, PARTNERS, Raising, alternating, row_of, version
from reference import (
    NAMES, all_orders, all_parts, cancelled, normal, random_pairs, random_syllables, sources, turns_of,
)
from undoamid.errors import NoDeed, NotShort, TooMany
from undoamid.orders import count_orders, order_at, order_of, orders
from undoamid.rows import Row
from undoamid.tables import Table
from undoamid.versions import Version

EMPTY = Version(ABC)


def samples(number, seed):
    """Versions of at most six syllables, each over some table."""
    for source in sources(number, seed):
        kinds = list(NAMES[:source.randint(1, 5)])
        table = Table(kinds, random_pairs(source, kinds, source.choice([0, 3, 5, 8, 10])))
        yield Version(table, random_syllables(source, kinds, 6))


def is_short(row):
    """Whether a row has as few syllables as its version."""
    return len(Version.of(row)) == len(row)


class TestOrders(Raising):
    def test_examples_of_section_10(self):
        found = [str(one) for one in orders(Version(ABC, [("a", 1), ("b", 2), ("c", 1)]))]
        self.assertEqual(found, ["a b^2 c", "b^2 a c"])
        self.assertEqual(order_of(Row.read(ABC, "b^2 a c")), 1)
        self.assert_error(NotShort, {"at": 2}, order_of, Row.read(ABC, "a b a c"))

    def test_all_orders_ascending(self):
        for v in samples(80, 1):
            expected = all_orders(v.table, v.syllables)
            found = list(orders(v))
            with self.subTest(pairs=v.table.pairs, form=v.syllables):
                self.assertEqual([one.syllables for one in found], expected)
                self.assertEqual(count_orders(v), len(expected))
                self.assertEqual([order_at(v, at) for at in range(len(expected))], found)
                self.assertEqual([order_of(one) for one in found], list(range(len(expected))))

    def test_orders_are_rows_of_the_version(self):
        v = version("a^2 b c^-1 b^3 a")
        for one in orders(version=v):
            self.assertIs(type(one), Row)
            self.assertEqual((one.table, Version.of(one), len(one)), (ABC, v, len(v)))

    def test_the_empty_version(self):
        self.assertEqual(list(orders(EMPTY)), [Row(ABC)])
        self.assertEqual((count_orders(EMPTY), order_at(EMPTY, 0), order_of(Row(ABC))), (1, Row(ABC), 0))
        self.assertEqual((count_orders(EMPTY, most=1), order_of(Row(ABC), most=1)), (1, 0))

    def test_all_kinds_free_and_all_barred(self):
        some = Version(FREE, [(kind, GREAT) for kind in KINDS[:4]])
        kinds = [tuple(kind for kind, _ in one.syllables) for one in orders(some)]
        self.assertEqual(kinds, sorted(itertools.permutations("abcd")))
        everything = Version(FREE, [(kind, GREAT) for kind in KINDS])
        self.assertEqual(count_orders(everything, most=4096), math.factorial(12))
        chain = Version(BARRED, [(KINDS[at % 12], -GREAT) for at in range(60)])
        self.assertEqual([one.syllables for one in orders(chain)], [chain.syllables])
        self.assertEqual(count_orders(chain, most=61), 1)
        self.assertEqual(count_orders(Version(ONE, [("a", -3)])), 1)

    def test_the_order_of_the_same_syllables_in_other_layers(self):
        v = Version(PARTNERS, row_of("c d b c"))
        self.assertEqual([str(one) for one in orders(v)], ["b c d c", "c b d c", "c d b c", "c d c b"])

    def test_counts_do_not_matter_for_the_order(self):
        v = version("b^-9 a^9")
        self.assertEqual([str(one) for one in orders(v)], ["a^9 b^-9", "b^-9 a^9"])
        self.assertEqual(order_of(v.row), 0)

    def test_the_first_ones_come_soon(self):
        wide = Version(PARTNERS, [(kind, 1) for _ in range(5) for kind in KINDS])
        found = list(itertools.islice(orders(wide), 300))
        places = [tuple(kind for kind, _ in one.syllables) for one in found]
        self.assertEqual(places, sorted(set(places)))
        self.assertEqual(places[0], tuple("ab" * 5 + "cd" * 5 + "ef" * 5 + "gh" * 5 + "ij" * 5 + "kl" * 5))
        self.assertEqual("".join(places[1])[40:], "ijijijij" + "ikj" + "lklklklkl")
        long = Version(PARTNERS, [(KINDS[at % 12], 1) for at in range(400)])
        self.assertEqual(len(list(itertools.islice(orders(long), 20))), 20)

    def test_leaving_and_starting_again(self):
        v = version("a b c a b")
        started = orders(v)
        first = next(started)
        again = list(orders(v))
        self.assertEqual(len(again), 4)
        self.assertEqual([first, *started], again)
        self.assertEqual(list(zip(orders(v), orders(v))), [(one, one) for one in again])


class TestIndexes(Raising):
    def test_indexes_beyond(self):
        v = version("a b c")
        self.assertEqual([str(order_at(v, at=at)) for at in (0, 1)], ["a b c", "b a c"])
        for at in (-1, 2, 3, 10 ** 40, -(10 ** 40)):
            self.assert_error(NoDeed, {"at": at}, order_at, v, at)
        self.assert_error(NoDeed, {"at": 1}, order_at, EMPTY, 1)
        self.assert_error(NoDeed, {"at": -1}, order_at, EMPTY, -1)

    def test_great_indexes(self):
        v = Version(FREE, [(kind, 2) for kind in KINDS])
        last = math.factorial(12) - 1
        self.assertEqual([kind for kind, _ in order_at(v, last, most=4096).syllables], KINDS[::-1])
        self.assert_error(NoDeed, {"at": last + 1}, order_at, v, last + 1, most=4096)
        for at in (0, 1, 2, 10 ** 6, 123456789, last):
            self.assertEqual(order_of(order_at(v, at, most=5000), most=5000), at)
        nearly = [kind for kind, _ in order_at(v, 1, most=5000).syllables]
        self.assertEqual(nearly, [*KINDS[:10], "l", "k"])

    def test_rows_that_are_not_short(self):
        for text, at in (
            ("a^0", 0), ("a a", 1), ("a a^-1", 1), ("a b a", 2), ("a c a^0 a", 2), ("c a b c b a a", 6),
            ("b c a b a c c", 4), ("a b^0 a", 1), ("a c b c c^-1 b", 4), ("b a^2 c b a b", 5),
        ):
            self.assert_error(NotShort, {"at": at}, order_of, Row.read(ABC, text))

    def test_the_least_index_that_shows_it(self):
        for source in sources(150, 2):
            kinds = list(NAMES[:source.randint(1, 4)])
            table = Table(kinds, random_pairs(source, kinds, source.choice([0, 3, 5, 8, 10])))
            row = Row(table, random_syllables(source, kinds, 7))
            starts = [Row(table, row.syllables[:at + 1]) for at in range(len(row))]
            wrong = [at for at, start in enumerate(starts) if not is_short(start)]
            if wrong:
                self.assert_error(NotShort, {"at": wrong[0]}, order_of, row)
            else:
                places = [one.syllables for one in orders(Version.of(row))]
                self.assertEqual(order_of(row=row), places.index(row.syllables))


class TestGroups(Raising):
    """Kinds in groups that are free with one another: their orders are mixed in any way."""

    def test_mixed_groups(self):
        for source in sources(40, 4):
            kinds = list(NAMES[:6])
            source.shuffle(kinds)
            cuts = sorted([0, 6, source.randrange(7), source.randrange(7)])
            groups = [kinds[low:high] for low, high in zip(cuts, cuts[1:])]
            table = Table(kinds, [
                (one, other) for one, other in itertools.combinations(kinds, 2)
                if not any(one in group and other in group for group in groups) or source.randrange(4) == 0
            ])
            v = Version(table, random_syllables(source, kinds, 7))
            expected = all_orders(table, v.syllables)
            self.assertEqual([one.syllables for one in orders(v)], expected)
            self.assertEqual(count_orders(v), len(expected))
            self.assertEqual([order_at(v, at).syllables for at in range(len(expected))], expected)
            self.assertEqual([order_of(Row(table, one)) for one in expected], list(range(len(expected))))
            self.assert_error(NoDeed, {"at": len(expected)}, order_at, v, len(expected))

    def test_ten_and_eleven_free_kinds(self):
        for many in (10, 11):
            table = Table(KINDS[:many], [pair for pair in FREE.pairs if pair[0] < pair[1] <= KINDS[many - 1]])
            v = Version(table, [(kind, 1) for kind in KINDS[:many]])
            number, cuts = math.factorial(many), 2 ** many
            self.assertEqual(count_orders(v, most=cuts), number)
            self.assertEqual(order_of(v.row, most=cuts), 0)
            last = Row(table, v.syllables[::-1])
            self.assertEqual((order_at(v, number - 1, most=cuts), order_of(last, most=cuts)), (last, number - 1))
            for at, order in enumerate(itertools.islice(itertools.permutations(KINDS[:many]), 50)):
                row = Row(table, [(kind, 1) for kind in order])
                self.assertEqual((order_at(v, at, most=cuts), order_of(row, most=cuts)), (row, at))
            for source in sources(30, 5):
                at = source.randrange(number)
                self.assertEqual(order_of(order_at(v, at, most=cuts), most=5000), at)
            for at in (-1, number, 10 ** 40):
                self.assert_error(NoDeed, {"at": at}, order_at, v, at, most=cuts)
                self.assert_error(TooMany, {"count": cuts - 1}, order_at, v, at, most=cuts - 1)
            self.assert_error(TooMany, {"count": cuts - 1}, count_orders, v, most=cuts - 1)
            self.assert_error(TooMany, {"count": cuts - 1}, order_of, v.row, most=cuts - 1)
            twice = Row(table, [*v.syllables, v.syllables[0]])
            self.assert_error(NotShort, {"at": many}, order_of, twice, most=cuts - 1)

    def test_free_kinds_behind_a_kind_that_bars_them_all(self):
        table = Table(KINDS[:11], [pair for pair in FREE.pairs if "k" not in pair and "l" not in pair])
        ten = [(kind, 1) for kind in KINDS[:10]]
        for row in ([("k", 1), *ten], [*ten, ("k", 1)]):
            v = Version(table, row)
            self.assertEqual(count_orders(v, most=1025), math.factorial(10))
            self.assert_error(TooMany, {"count": 1024}, count_orders, v, most=1024)
            for at in (0, 5, 10 ** 6, math.factorial(10) - 1):
                self.assertEqual(order_of(order_at(v, at), most=1025), at)

    def test_the_number_of_parts_is_that_of_all_groups(self):
        v = Version(PARTNERS, [*alternating("a", "b", 9), *alternating("c", "d", 19), *alternating("e", "f", 4)])
        self.assertEqual(count_orders(v, most=1000), math.factorial(32) // (
            math.factorial(9) * math.factorial(19) * math.factorial(4)))
        self.assert_error(TooMany, {"count": 999}, count_orders, v, most=999)
        self.assert_error(TooMany, {"count": 9}, count_orders, v, most=9)


class TestMost(Raising):
    def test_most_is_compared_with_the_number_of_parts(self):
        for v in samples(60, 3):
            parts = len(all_parts(v.table, v.syllables))
            many = count_orders(v)
            self.assertEqual(count_orders(v, most=parts), many)
            self.assertEqual(order_at(v, many - 1, most=parts), list(orders(v))[-1])
            self.assertEqual(order_of(v.row, most=parts), order_of(v.row))
            if parts > 1:
                told = {"count": parts - 1}
                self.assert_error(TooMany, told, count_orders, v, most=parts - 1)
                self.assert_error(TooMany, told, order_at, v, 0, most=parts - 1)
                self.assert_error(TooMany, told, order_of, v.row, most=parts - 1)

    def test_the_order_of_the_errors(self):
        v = version("a b c")
        for at in (-1, 2, 10 ** 40):
            self.assert_error(TooMany, {"count": 4}, order_at, v, at, most=4)
            self.assert_error(NoDeed, {"at": at}, order_at, v, at, most=5)
        self.assert_error(NotShort, {"at": 3}, order_of, Row.read(ABC, "a b c c"), most=1)
        self.assert_error(TooMany, {"count": 1}, order_of, Row.read(ABC, "a b c"), most=1)

    def test_the_default(self):
        rows = [*alternating("a", "b", 9), *alternating("c", "d", 9), *alternating("e", "f", 19)]
        v = Version(PARTNERS, rows)
        self.assertEqual(count_orders(v), math.factorial(37) // math.factorial(9) ** 2 // math.factorial(19))
        self.assertEqual(order_at(v, 0).syllables, tuple(rows))
        self.assertEqual(order_of(Row(PARTNERS, rows)), 0)
        more = v * Version(PARTNERS, [("f", 1)])
        for work, arguments in ((count_orders, (more,)), (order_at, (more, 0)), (order_of, (more.row,))):
            self.assert_error(TooMany, {"count": 2000}, work, *arguments)
            work(*arguments, most=2100)

    def test_very_many_parts(self):
        row = [(kind, GREAT) for kind in [*KINDS[:10] * 39, "k", "l"]]
        for wide in (Version(PARTNERS, row), Version(HELD, row)):
            for most in (1, 5000):
                for work, arguments in ((count_orders, (wide,)), (order_at, (wide, -1)), (order_of, (wide.row,))):
                    self.assert_error(TooMany, {"count": most}, work, *arguments, most=most)
