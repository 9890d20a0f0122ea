"""Tests of [25] to [28]: amends, what hangs on a deed, and chains."""

from helping import ABC, BARRED, FREE, GREAT, KINDS, ONE, OTHER, PARTNERS, TURNED, WIDER
from helping import Raising, alternating, row_of, version
from reference import NAMES, hanging_pairs, random_pairs, random_syllables, sources
from undoamid.amends import amends, amends_between, chain, hanging, moving
from undoamid.errors import NoDeed, OtherTable, TooMany
from undoamid.rows import Row
from undoamid.tables import Table
from undoamid.versions import Version


def read(text, table=ABC):
    """The row of a text."""
    return Row(table, row_of(text))


def samples(number, seed, most=7):
    """Rows over some tables, some with counts of 0."""
    for source in sources(number, seed):
        kinds = list(NAMES[:source.randint(1, 5)])
        table = Table(kinds, random_pairs(source, kinds, source.choice([0, 3, 5, 7])))
        yield Row(table, random_syllables(source, kinds, most)), source


def hanging_as_described(row, at):
    """The syllables that hang on a deed, worked out as [26] puts it."""
    kind, count = row.syllables[at]
    form = Version(row.table, row.syllables[at + 1:]).syllables
    pairs = hanging_pairs(row.table, form)
    direct = [k for k, (other, _) in enumerate(form) if kind != other and row.table.barred(kind, other)]
    found = [k for k in range(len(form)) if k in direct or any((k, early) in pairs for early in direct)]
    return Version(row.table, [form[k] for k in found]).syllables if count else ()


def is_chain(row, at, index, kinds):
    """Whether a tuple of kinds is a chain as [28] describes it, but for its length."""
    found = [kind for kind, _ in hanging(row, at)]
    if len(kinds) < 2 or kinds[0] != row.syllables[at][0] or kinds[-1] != found[index]:
        return False
    if not row.table.barred(kinds[0], kinds[1]):
        return False
    if any(one != other and row.table.free(one, other) for one, other in zip(kinds[1:], kinds[2:])):
        return False
    # All but the last one are taken as early as can be.
    place = 0
    for kind in kinds[1:-1]:
        if kind not in found[place:index]:
            return False
        place = found.index(kind, place) + 1
    return place <= index


def least_length(row, at, index):
    """The least length of a chain, by trying all ways backwards."""
    kinds = [kind for kind, _ in hanging(row, at)]
    if row.table.barred(row.syllables[at][0], kinds[index]):
        return 2
    return 1 + min(
        least_length(row, at, early) for early in range(index)
        if kinds[early] == kinds[index] or row.table.barred(kinds[early], kinds[index])
    )


class TestAmends(Raising):
    def test_example_of_section_1(self):
        row = Row.read(ABC, "a b c b^2")
        self.assertEqual((str(row.without(0)), str(amends(row, 0))), ("b c b^2", "b^-2 c^-1 a^-1 c b^2"))

    def test_example_of_section_11(self):
        row = Row.read(ABC, "c b^3 a c^2 c^-2 a^2")
        self.assertEqual((hanging(row, 1), str(amends(row, 1))), ((), "b^-3"))
        self.assertEqual(hanging(row, 0), (("a", 3), ("b", 3)))
        self.assertEqual(chain(row, 0, 1), ("c", "b"))
        self.assertEqual((str(amends(row, 3, 4)), str(amends(row, 0, 3, 4))), ("-", "a^-3 b^-3 c^-1 a^3 b^3"))

    def test_amends_between(self):
        v, w = version("a c b"), version("a^2 c")
        self.assertEqual(amends_between(one=v, other=w), ~v * w)
        self.assertEqual(v * amends_between(v, w), w)
        self.assertEqual(amends_between(v, v), Version(ABC))
        self.assertEqual(amends_between(v, Version(TURNED)), ~v)
        for table in (OTHER, WIDER, ONE):
            self.assert_error(OtherTable, {}, amends_between, v, Version(table))
            self.assert_error(OtherTable, {}, amends_between, Version(table), v)
        long = Version(ABC, alternating("a", "c", 600))
        self.assertEqual(amends_between(long, long), Version(ABC))
        self.assert_error(TooMany, {"count": 1000}, amends_between, ~long, long)

    def test_amends_lead_to_the_row_without_the_syllables(self):
        for row, source in samples(120, 1):
            for at in range(len(row)):
                more = [source.randrange(len(row)) for _ in range(source.randrange(3))]
                way = amends(row, at, *more)
                self.assertEqual(Version.of(row) * way, Version.of(row.without(at, *more)))

    def test_amends_of_one_deed(self):
        for row, _ in samples(120, 2):
            for at, (kind, count) in enumerate(row.syllables):
                h = Version(row.table, hanging(row, at))
                self.assertEqual(amends(row, at=at), ~h * Version(row.table, [(kind, -count)]) * h)

    def test_several_at_once_may_need_less(self):
        row = read("a c a^-1")
        self.assertEqual((str(amends(row, 0)), str(amends(row, 2))), ("a c^-1 a^-1 c a^-1", "a"))
        self.assertEqual(str(amends(read("a a^-1"), 0, 1)), "-")
        self.assertEqual(str(amends(read("a c c^-1"), 1, 2)), "-")
        self.assertEqual(str(amends(read("c a a^-1 c"), 1, 2)), "-")

    def test_indexes(self):
        row = read("a c b")
        self.assertEqual(amends(row, 0, 0, 0), amends(row, 0))
        self.assertEqual(amends(row, 2, 0), amends(row, 0, 2))
        self.assertEqual(str(amends(row, 0, 1, 2)), "b^-1 c^-1 a^-1")
        for arguments, at in (
            ((-1,), -1), ((3,), 3), ((0, 3), 3), ((0, -1, 5), -1), ((4, -1), 4), ((1, 2, 10 ** 40), 10 ** 40),
        ):
            self.assert_error(NoDeed, {"at": at}, amends, row, *arguments)
        self.assert_error(NoDeed, {"at": 0}, amends, Row(ABC), 0)

    def test_great_counts_and_long_rows(self):
        row = read(f"a^{GREAT} c^{-GREAT} a^{GREAT}")
        self.assertEqual(amends(row, 0), version(f"a^{-GREAT} c^{GREAT} a^{-GREAT} c^{-GREAT} a^{GREAT}"))
        self.assertEqual(amends(row, 1), version(f"a^{-GREAT} c^{GREAT} a^{GREAT}"))
        long = Row(BARRED, [(KINDS[at % 12], GREAT) for at in range(400)])
        self.assertEqual(len(amends(long, 0)), 2 * 399 + 1)
        self.assertEqual(len(hanging(long, 0)), 399)
        self.assertEqual(chain(long, 0, 398), ("a", "d"))
        self.assert_error(TooMany, {"count": 1000}, amends, Row(ABC, alternating("a", "c", 502)), 0)
        self.assertEqual(len(amends(Row(ABC, alternating("a", "c", 500)), 0)), 999)

    def test_moving(self):
        for row, source in samples(100, 3):
            for at in range(len(row)):
                to = source.randrange(len(row))
                self.assertEqual(Version.of(row) * moving(row, at, to), Version.of(row.moved(at, to)))
        row = read("a c b")
        self.assertEqual(str(moving(row, 0, 1)), "b^-1 c^-1 a^-1 c a b")
        self.assertEqual(str(moving(read("a b c"), at=0, to=1)), "-")
        self.assertEqual(moving(row, 2, 2), Version(ABC))
        for at, to, wrong in ((-1, 0, -1), (3, -1, 3), (0, 3, 3), (2, -1, -1), (-5, 7, -5)):
            self.assert_error(NoDeed, {"at": wrong}, moving, row, at, to)
        self.assert_error(NoDeed, {"at": 0}, moving, Row(ABC), 0, 0)

    def test_moving_beyond_the_limit(self):
        row = Row(ABC, [("b", 1), *alternating("c", "a", 502)])
        self.assert_error(TooMany, {"count": 1000}, moving, row, 0, 502)
        self.assert_error(NoDeed, {"at": 503}, moving, row, 0, 503)


class TestHanging(Raising):
    def test_what_hangs_is_as_described(self):
        for row, _ in samples(150, 4, most=9):
            for at in range(len(row)):
                with self.subTest(pairs=row.table.pairs, row=row.syllables, at=at):
                    self.assertEqual(hanging(row=row, at=at), hanging_as_described(row, at))

    def test_what_hangs(self):
        for text, at, found in (
            ("a a c", 0, "c"), ("a b c", 1, "c"), ("a a a", 0, "-"), ("a b b", 0, "-"), ("a c c^-1 b", 0, "-"),
            ("a^0 c", 0, "-"), ("a b c b^2", 0, "c b^2"), ("b c a", 0, "c a"), ("c b a", 0, "a b"),
            ("c b a", 2, "-"), ("c^3 c^-3 a", 0, "a"), ("a c^0 b", 0, "-"), ("a^-1 a c b^0", 0, "c"),
        ):
            self.assertEqual(hanging(read(text), at), tuple(row_of(found)))
        self.assertIs(type(hanging(read("a c"), 0)), tuple)

    def test_they_stand_in_the_form_of_their_own_version(self):
        # Behind the deed, a stands in a later layer than c, as b is ahead of it; b does not hang on the deed.
        table = Table(list("abcd"), [("b", "c"), ("a", "c"), ("b", "d")])
        row = Row(table, row_of("d b a c"))
        self.assertEqual(Version(table, row.syllables[1:]).syllables, (("b", 1), ("c", 1), ("a", 1)))
        self.assertEqual(hanging(row, 0), (("a", 1), ("c", 1)))
        self.assertEqual((chain(row, 0, 0), chain(row, 0, 1)), (("d", "a"), ("d", "c")))

    def test_what_hangs_over_some_tables(self):
        self.assertEqual(hanging(Row(PARTNERS, row_of("d a b c a")), 0), (("c", 1),))
        table = Table(list("abcd"), [("a", "d"), ("b", "d"), ("a", "c")])
        row = Row(table, row_of("d b a c^2 a"))
        self.assertEqual(hanging(row, 0), (("c", 2),))

    def test_indexes_beyond(self):
        row = read("a c b")
        for at in (-1, 3, 4, 10 ** 40):
            self.assert_error(NoDeed, {"at": at}, hanging, row, at)
        self.assertEqual(hanging(row, 2), ())
        self.assert_error(NoDeed, {"at": 0}, hanging, Row(ABC), 0)

    def test_all_free_and_all_barred(self):
        syllables = [(kind, GREAT) for kind in KINDS]
        self.assertEqual(hanging(Row(FREE, syllables), 0), ())
        self.assertEqual(hanging(Row(BARRED, syllables), 0), tuple(syllables[1:]))
        self.assertEqual(amends(Row(FREE, syllables), 3), Version(FREE, [("d", -GREAT)]))


class TestChains(Raising):
    def test_chains_are_chains_of_the_least_length(self):
        for row, _ in samples(150, 5, most=9):
            for at in range(len(row)):
                for index in range(len(hanging(row, at))):
                    kinds = chain(row, at, index)
                    with self.subTest(pairs=row.table.pairs, row=row.syllables, at=at, index=index):
                        self.assertIs(type(kinds), tuple)
                        self.assertTrue(is_chain(row, at, index, kinds))
                        self.assertEqual(len(kinds), least_length(row, at, index))

    def test_long_chains(self):
        # Each kind is barred with its neighbours alone.
        table = Table(KINDS, [
            (one, other) for one in KINDS for other in KINDS if KINDS.index(other) - KINDS.index(one) > 1
        ])
        row = Row(table, [(kind, 1) for kind in KINDS])
        self.assertEqual([chain(row, 0, at) for at in range(11)], [tuple(KINDS[:at + 2]) for at in range(11)])
        back = Row(table, row_of("a b c b a"))
        self.assertEqual(hanging(back, 0), tuple(row_of("b c b a")))
        self.assertEqual([len(chain(row=back, at=0, index=at)) for at in range(4)], [2, 3, 2, 3])

    def test_a_chain_may_pass_the_same_kind(self):
        row = Row(PARTNERS, row_of("a b a b a"))
        self.assertEqual([chain(row, 0, at) for at in range(4)], [
            ("a", "b"), ("a", "b", "a"), ("a", "b"), ("a", "b", "a"),
        ])

    def test_errors(self):
        row = read("c b a")
        for at, index, wrong in (
            (-1, 0, -1), (3, 0, 3), (3, -1, 3), (0, 2, 2), (0, -1, -1), (2, 0, 0), (0, 10 ** 40, 10 ** 40), (-2, 9, -2),
        ):
            self.assert_error(NoDeed, {"at": wrong}, chain, row, at, index)
        self.assertEqual((chain(row, 0, 0), chain(row, 0, 1)), (("c", "a"), ("c", "b")))
        self.assert_error(NoDeed, {"at": 0}, chain, read("a^0 c"), 0, 0)
