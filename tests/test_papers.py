"""Tests of [40] to [42], and of [13] "One form": steps, papers, and answers that hold or do not."""

import itertools

from helping import ABC, BARRED, FREE, GREAT, KINDS, ONE, OTHER, PARTNERS, TURNED, WIDER
from helping import Raising, alternating, row_of, version
from reference import NAMES, formed, random_pairs, random_syllables, sources, turns_of
from undoamid.errors import OtherTable
from undoamid.papers import (
    exchange_holds, lead_holds, paper, paper_holds, parting_holds, root_holds, walked,
)
from undoamid.parting import parted
from undoamid.rounds import exchanging, lead_between, root, round_form
from undoamid.rows import Row
from undoamid.stores import Store
from undoamid.tables import Table
from undoamid.versions import Version

EMPTY = Version(ABC)
# Values of all sorts of [1] that are no steps, and no papers.
NO_STEPS = (
    0, 1, -1, True, False, None, "", "drop", "exchange", [], ["drop", 0], ("drop",), ("drop", 0, 0), ("drop", True),
    ("drop", "0"), ("drop", None), ("drop", -1), ("drop", [0]), ("exchange",), ("exchange", 0, 1), ("exchange", (0,)),
    ("melt", 0, 0), ("split", 0), ("split", 0, True), ("split", 0, None), ("split", 0, "1"), ("split", 0, 1, 1),
    ("split", 0, (1,)), ("put", 0), ("put", 0, "x"), ("put", 0, True), ("put", 0, None), ("put", 0, ["a"]),
    ("put", 0, "a", "a"), ("put", -1, "a"), ("put", False, "a"), (), ((),), ((("drop", 0),),), [[[[[[[0]]]]]]],
    ("swap", 0), (0, "drop"), (["drop"], 0), (None, 0), ("drop ", 0), ("Drop", 0), ("drop", 10 ** 40), (True, 0),
)


def row(text, table=ABC):
    return Row(table, row_of(text))


def stepped(table, syllables, step):
    """What [40] says of one step, for steps that have a right form; None where it cannot be done."""
    here = list(syllables)
    word, at = step[0], step[1]
    if word == "put":
        return [*here[:at], (step[2], 0), *here[at:]] if at <= len(here) and step[2] in table.kinds else None
    need = 2 if word in ("exchange", "melt") else 1
    if at + need > len(here):
        return None
    kind, count = here[at]
    if word == "drop":
        return here[:at] + here[at + 1:] if count == 0 else None
    if word == "split":
        return [*here[:at], (kind, step[2]), (kind, count - step[2]), *here[at + 1:]]
    other, more = here[at + 1]
    if word == "melt":
        return [*here[:at], (kind, count + more), *here[at + 2:]] if kind == other else None
    return [*here[:at], (other, more), (kind, count), *here[at + 2:]] if table.free(kind, other) else None


def random_step(source, table, size):
    """A random step of a right form, that may or may not be possible."""
    word = source.choice(["exchange", "melt", "drop", "split", "put"])
    at = source.randint(0, size + 1)
    if word == "split":
        return (word, at, source.randint(-3, 3))
    return (word, at, source.choice([*table.kinds, "z"])) if word == "put" else (word, at)


def alike_rows(source, table, syllables):
    """A row alike to one with these syllables, by random steps."""
    for _ in range(40):
        found = stepped(table, syllables, random_step(source, table, len(syllables)))
        if found is not None and len(found) < 20:
            syllables = found
    return syllables


class TestWalked(Raising):
    def test_each_step(self):
        start = row("a b^2 c^0 c^3 c^-1")
        for step, expected in (
            (("exchange", 0), "b^2 a c^0 c^3 c^-1"), (("exchange", 1), None), (("exchange", 3), None),
            (("exchange", 4), None), (("melt", 3), "a b^2 c^0 c^2"), (("melt", 2), "a b^2 c^3 c^-1"), (("melt", 0),
            None),
            (("melt", 4), None), (("drop", 2), "a b^2 c^3 c^-1"), (("drop", 0), None), (("drop", 5), None),
            (("split", 0, 5), "a^5 a^-4 b^2 c^0 c^3 c^-1"), (("split", 2, 0), "a b^2 c^0 c^0 c^3 c^-1"),
            (("split", 4, -GREAT), f"a b^2 c^0 c^3 c^{-GREAT} c^{GREAT - 1}"), (("split", 5, 1), None),
            (("put", 0, "c"), "c^0 a b^2 c^0 c^3 c^-1"), (("put", 5, "a"), "a b^2 c^0 c^3 c^-1 a^0"),
            (("put", 6, "a"), None), (("put", 0, "d"), None), (("put", 0, "exchange"), None),
        ):
            found = walked(start, (step,))
            self.assertEqual(found, None if expected is None else row(expected), step)
            self.assertIs(paper_holds(start, start if found is None else found, (step,)), found is not None)

    def test_steps_one_after_the_other(self):
        for source in sources(150, 81):
            kinds = list(NAMES[:source.randint(1, 4)])
            table = Table(kinds, random_pairs(source, kinds, source.choice([0, 5, 10])))
            start = Row(table, random_syllables(source, kinds, 4))
            expected, steps = list(start.syllables), []
            for _ in range(source.randint(0, 6)):
                steps.append(random_step(source, table, len(expected)))
                expected = stepped(table, expected, steps[-1])
                if expected is None:
                    break
            found = walked(row=start, value=tuple(steps))
            if expected is None:
                self.assertIsNone(found)
            else:
                self.assertEqual(found, Row(table, expected))
                self.assertEqual(Version.of(found), Version.of(start))

    def test_any_value(self):
        start = row("a^0 b a^0")
        self.assertEqual(walked(start, ()), start)
        for value in NO_STEPS:
            if value != ():
                self.assertIsNone(walked(start, value))
                self.assertIs(paper_holds(start, start, value), False)
            for steps in ((value,), (("drop", 0), value), (("put", 0, "a"), value, ("drop", 0))):
                self.assertIsNone(walked(start, steps))
                self.assertIs(paper_holds(start, start, steps), False)
            self.assertIsNone(walked(start, [value]))
        self.assertIsNone(walked(start, [("drop", 0)]))
        self.assertIsNone(walked(start, (["drop", 0],)))
        self.assertIsNone(walked(Row(ABC), (("exchange", 0),)))
        self.assertEqual(walked(start, (("drop", 0), ("drop", 1))), row("b"))

    def test_great_steps(self):
        self.assertIsNone(walked(row("a"), (("put", 10 ** 40, "a"),)))
        self.assertEqual(walked(row("a"), (("split", 0, 10 ** 40),)), Row(ABC, [("a", 10 ** 40), ("a", 1 - 10 ** 40)]))
        long = walked(Row(ABC), (("put", 0, "a"),) * 3000)
        self.assertEqual(len(long), 3000)
        self.assertEqual(Version.of(long), EMPTY)
        self.assertEqual(walked(long, (("drop", 0),) * 3000), Row(ABC))


class TestPapers(Raising):
    def check(self, one, other):
        """That a paper leads from one row to the other one, step by step."""
        found = paper(one=one, other=other)
        self.assertIs(type(found), tuple)
        here = list(one.syllables)
        for step in found:
            self.assertIs(type(step), tuple)
            here = stepped(one.table, here, step)
        self.assertEqual(tuple(here), other.syllables)
        self.assertIs(paper_holds(one=one, other=other, value=found), True)
        return found

    def test_alike_rows(self):
        for source in sources(120, 82):
            kinds = list(NAMES[:source.randint(1, 5)])
            table = Table(kinds, random_pairs(source, kinds, source.choice([0, 3, 5, 8, 10])))
            syllables = random_syllables(source, kinds, 6)
            one, other = Row(table, syllables), Row(table, alike_rows(source, table, syllables))
            self.check(one, other)
            self.check(other, one)
            self.check(one, one)
            self.check(Version.of(one).row, other)

    def test_rows_that_are_not_alike(self):
        many = 0
        for source in sources(150, 83):
            kinds = list(NAMES[:source.randint(2, 4)])
            table = Table(kinds, random_pairs(source, kinds, 5))
            one, other = [Row(table, random_syllables(source, kinds, 4, 1)) for _ in range(2)]
            alike = formed(table, turns_of(one.syllables)) == formed(table, turns_of(other.syllables))
            if alike:
                self.check(one, other)
                many += 1
            else:
                self.assertIsNone(paper(one, other))
                self.assertIs(paper_holds(one, other, ()), False)
                self.assertIs(paper_holds(one, other, paper(one, Version.of(one).row)), False)
        self.assertGreater(many, 5)

    def test_rows_of_sixty_syllables(self):
        for table in (ABC, FREE, BARRED, PARTNERS, ONE):
            for source in sources(5, 84):
                syllables = [(source.choice(table.kinds), source.choice([0, 1, -1, GREAT])) for _ in range(60)]
                one = Row(table, syllables)
                self.check(one, Version.of(one).row)
                self.check(Row(table), one + ~one)
                self.check(one + ~one + one, one)

    def test_some(self):
        self.check(row("-"), row("-"))
        self.check(row("a^0 c^0"), row("-"))
        self.check(row("-"), row("a^0 c b b^-1 c^-1"))
        self.check(row("a b a"), row("b^0 b a^2"))
        self.check(row("c a^5 b a^-5 b^-1 c^-1"), row("-"))
        self.assertIsNone(paper(row("a c"), row("c a")))

    def test_great_rows(self):
        wide = Row(PARTNERS, [(KINDS[at * 7 % 12], 1) for at in range(400)])
        self.check(wide, Version.of(wide).row)
        self.check(Version.of(wide).row, wide)

    def test_other_tables(self):
        for table in (OTHER, WIDER, ONE):
            for one, other in ((row("a"), Row(table, [("a", 1)])), (Row(table), row("-")), (row("a"), Row(table))):
                self.assert_error(OtherTable, {}, paper, one, other)
                for value in ((), paper(one, one), None, ("drop",)):
                    self.assertIs(paper_holds(one, other, value), False)
        self.assertEqual(walked(row("a b"), paper(row("a b"), Row(TURNED, row_of("b a")))), row("b a"))
        self.assertIs(paper_holds(row("a b"), Row(TURNED, row_of("b a")), (("exchange", 0),)), True)

    def test_papers_for_other_rows_do_not_hold(self):
        value = paper(row("a b c"), row("b a c"))
        self.assertIs(paper_holds(row("a b c"), row("b a c"), value), True)
        for one, other in (("a b c", "a b c"), ("a c b", "b a c"), ("a b", "b a c"), ("a b c", "b a c c^0")):
            self.assertIs(paper_holds(row(one), row(other), value), False)
        self.assertIs(paper_holds(row("a b c"), row("b a c"), list(value)), False)
        self.assertIs(paper_holds(row("a b c"), row("b a c"), (*value, ("drop", 0))), False)

    def test_the_same_call_returns_an_equal_result(self):
        first = paper(row("a b c^0"), row("b a"))
        paper(row("b a"), row("a b c^0"))
        self.assertEqual(paper(row("a b c^0"), row("b a")), first)


class TestPartingHolds(Raising):
    def test_answers_of_parted(self):
        for source in sources(60, 85):
            kinds = list(NAMES[:source.randint(1, 4)])
            table = Table(kinds, random_pairs(source, kinds, 5))
            one, other = [Version(table, random_syllables(source, kinds, 4)) for _ in range(2)]
            if one != other:
                store, standing = parted(one, other)
                self.assertIs(parting_holds(one=one, other=other, store=store, standing=standing), True)
                self.assertIs(parting_holds(one, one, store, standing), False)
                for k in range(-2, store.size + 2):
                    expected = 0 <= k < store.size and store(one, k) != store(other, k)
                    self.assertIs(parting_holds(one, other, store, k), expected)

    def test_what_does_not_hold(self):
        store = Store(3, {"a": (1, 2, 0), "b": (0, 2, 1)})
        self.assertIs(store.keeps(ABC), False)
        self.assertIs(parting_holds(version("a"), EMPTY, store, 0), False)
        barred = ABC.without_pair("a", "b")
        one, other = version("a", barred), Version(barred)
        self.assertIs(parting_holds(one, other, store, 0), True)
        for standing in (-1, 3, 10 ** 40, -10 ** 40):
            self.assertIs(parting_holds(one, other, store, standing), False)
        self.assertIs(parting_holds(version("b", barred), other, store, 0), False)
        self.assertIs(parting_holds(version("b", barred), other, store, 1), True)
        self.assertIs(parting_holds(one, version("-"), store, 0), False)
        self.assertIs(parting_holds(version("a", WIDER), version("-"), Store(2, {"a": (1, 0)}), 0), False)
        self.assertIs(parting_holds(Version(TURNED, [("a", 1)]), EMPTY, Store(2, {"a": (1, 0), "z": (1, 0)}), 0), True)


class TestOthersHold(Raising):
    def samples(self, number, seed):
        for source in sources(number, seed):
            kinds = list(NAMES[:source.randint(1, 4)])
            table = Table(kinds, random_pairs(source, kinds, source.choice([0, 5, 8, 10])))
            yield [Version(table, random_syllables(source, kinds, 4)) for _ in range(3)]

    def test_lead_holds(self):
        for v, w, x in self.samples(80, 86):
            other = ~w * v * w
            self.assertIs(lead_holds(one=v, other=other, lead=w), True)
            self.assertIs(lead_holds(v, other, lead_between(v, other)), True)
            self.assertIs(lead_holds(v, x, w), other == x)
            self.assertIs(lead_holds(v, other, x), ~x * v * x == other)
        self.assertIs(lead_holds(version("a c"), version("c a"), version("a")), True)
        self.assertIs(lead_holds(version("a c"), version("c a"), version("c")), False)

    def test_root_holds(self):
        for v, w, x in self.samples(80, 87):
            base, power = root(v)
            self.assertIs(root_holds(version=v, root=base, power=power), True)
            self.assertIs(root_holds(v, ~base, -power), not v)
            self.assertIs(root_holds(v, v, 1), power == 1)
            for other, many in ((base, power + 1), (x, power), (base, -power), (w, 10 ** 40), (base, 0)):
                self.assertIs(root_holds(v, other, many), (other, many) == (base, power))
        self.assertIs(root_holds(version("a^-4"), version("a^-1"), 4), True)
        self.assertIs(root_holds(version("a^-4"), version("a"), -4), False)
        self.assertIs(root_holds(version("a^-4"), version("a^-2"), 2), False)
        self.assertIs(root_holds(EMPTY, EMPTY, 0), True)
        self.assertIs(root_holds(EMPTY, EMPTY, 1), False)
        self.assertIs(root_holds(EMPTY, version("a"), 0), False)

    def test_exchange_holds(self):
        for v, w, x in self.samples(80, 88):
            lead, roots, kinds = exchanging(v)
            self.assertIs(exchange_holds(version=v, lead=lead, roots=roots, kinds=kinds), True)
            other = ~w * v * w
            self.assertIs(exchange_holds(other, ~w * lead, roots, kinds), True)
            self.assertIs(exchange_holds(v, lead, roots, (*kinds, "zz")), False)
            self.assertIs(exchange_holds(v, lead, (*roots, w), kinds), False)
            if roots:
                self.assertIs(exchange_holds(v, lead, roots[1:], kinds), False)
                self.assertIs(exchange_holds(v, lead, (~roots[0], *roots[1:]), kinds), False)
                self.assertIs(exchange_holds(v, lead, (roots[0].power(2), *roots[1:]), kinds), False)
            if kinds:
                self.assertIs(exchange_holds(v, lead, roots, kinds[1:]), False)
            if len(roots) > 1:
                self.assertIs(exchange_holds(v, lead, roots[::-1], kinds), False)
            if len(kinds) > 1:
                self.assertIs(exchange_holds(v, lead, roots, kinds[::-1]), False)

    def test_round_versions_other_than_that_of_35_hold_too(self):
        v = version("c a c^2 a")
        self.assertEqual(str(round_form(v)[1]), "a c a c^2")
        self.assertIs(exchange_holds(v, EMPTY, (v,), ()), True)
        self.assertIs(exchange_holds(v, version("c"), (version("a c^2 a c"),), ()), True)
        # A lead to a version that is not round does not hold.
        self.assertIs(exchange_holds(v, version("c^2"), (~version("c^2") * v * version("c^2"),), ()), False)
        self.assertIs(exchange_holds(v, version("b"), (v,), ()), False)
        self.assertIs(exchange_holds(EMPTY, version("a c"), (), ("a", "b", "c")), True)
        self.assertIs(exchange_holds(EMPTY, EMPTY, (), ("a", "b")), False)
        self.assertIs(exchange_holds(version("a^6 b^-2"), EMPTY, (version("a"), version("b^-1")), ()), True)
        self.assertIs(exchange_holds(version("a^6 b^-2"), version("b"), (version("a^3"), version("b^-1")), ()), False)

    def test_forty_syllables(self):
        for table in (ABC, BARRED, PARTNERS):
            for source in sources(4, 89):
                v = Version(table, [(source.choice(table.kinds), source.randint(-GREAT, GREAT)) for _ in range(40)])
                w = Version(table, [(source.choice(table.kinds), source.randint(-9, 9)) for _ in range(40)])
                self.assertIs(lead_holds(v, ~w * v * w, w), True)
                self.assertIs(root_holds(v, *root(v)), True)
                self.assertIs(exchange_holds(v, *exchanging(v)), True)
                self.assertIs(exchange_holds(v, w, (), ()), False)
        far = Version(ABC, alternating("a", "c", 400))
        self.assertIs(lead_holds(far, far, version("b")), False)


class TestAllNearRows(Raising):
    def test_papers_exactly_for_alike_rows(self):
        syllables = [("a", 1), ("a", -1), ("b", 1), ("c", 0), ("c", 1)]
        rows = [Row(ABC, some) for size in range(3) for some in itertools.product(syllables, repeat=size)]
        for one, other in itertools.product(rows, repeat=2):
            alike = formed(ABC, turns_of(one.syllables)) == formed(ABC, turns_of(other.syllables))
            found = paper(one, other)
            self.assertIs(found is not None, alike)
            self.assertIs(paper_holds(one, other, found), alike)
