"""Tests of [45] to [48], and of [13] "Houses"."""

from helping import ABC, BARRED, FREE, GREAT, KINDS, ONE, OTHER, TURNED, WIDER
from helping import Raising, alternating, row_of, version
from reference import (
    NAMES, all_beginnings, formed, led, passes, random_pairs, sources, times, turns_of, undone, word_of,
)
from undoamid.errors import (
    Barred, Clash, InvalidCommand, NoDeed, OtherTable, Taken, TooMany, UndoError, UnknownBranch, UnknownKind,
)
from undoamid.houses import House
from undoamid.rows import Row
from undoamid.stores import Store
from undoamid.tables import Table
from undoamid.versions import Version

NEAR = ABC.without_pair("a", "b")
TWIST = Store(3, {"a": (1, 2, 0), "b": (2, 0, 1), "c": (0, 2, 1)})
SWAPS = Store(3, {"a": (1, 0, 2), "b": (0, 2, 1)})
BRANCHES = ["side", "third", "four", "five", "six", "seven", "eight"]


def state(house):
    """All that a house shows."""
    return (
        house.table, house.current, house.names, house.row, house.version, house.stores, len(house), house.log(),
        [house[name] for name in house.names], [house.standing(name) for name in house.stores],
    )


def word_of_row(row):
    return times(row.table, turns_of(row.syllables))


class Model:
    """A house told by its words: each change makes a new state, turn by turn."""

    def __init__(self, table):
        self.table, self.current, self.rows, self.attached = table, "main", {"main": ()}, {}
        self.told, self.earlier = [], []

    def word(self, name):
        return times(self.table, turns_of(self.rows[name]))

    def changed(self, told, table, rows, current):
        before = self.word(self.current)
        self.earlier.append((self.table, self.rows, self.current))
        self.told.append(told)
        return self.come(before, table, rows, current)

    def come(self, before, table, rows, current):
        other = self.table != table
        self.table, self.rows, self.current = table, rows, current
        return () if other else times(table, undone(before), self.word(current))

    def row_is(self, told, row):
        return self.changed(told, self.table, {**self.rows, self.current: tuple(row)}, self.current)

    def common(self, name):
        """The words behind the greatest common beginning, of the current branch and of a named one."""
        one, other = self.word(self.current), self.word(name)
        both = all_beginnings(self.table, one) & all_beginnings(self.table, other)
        base = max(both, key=len)
        return [times(self.table, undone(base), word) for word in (one, other)]

    def do_step(self, step):
        """What a change returns, as a word, or the class of the error that it raises."""
        name, *rest = step
        row = self.rows[self.current]
        if name == "do":
            return self.row_is(step, [*row, tuple(rest)]) if rest[0] in self.table.kinds else UnknownKind
        if name in ("take_out", "move"):
            if not all(0 <= at < len(row) for at in rest):
                return NoDeed
            less = [*row[:rest[0]], *row[rest[0] + 1:]]
            if name == "move":
                less.insert(rest[1], row[rest[0]])
            return self.row_is(step, less)
        if name == "shorten":
            return self.row_is(step, formed(self.table, self.word(self.current)))
        if name == "change":
            if rest[0].kinds != self.table.kinds:
                return OtherTable
            if not all(store.keeps(rest[0]) for store, _ in self.attached.values()):
                return Clash
            return self.changed(step, rest[0], dict(self.rows), self.current)
        if name == "undo":
            return self.undo()
        return self.do_branch(step, rest[0])

    def undo(self):
        if not self.told:
            return None
        table, rows, current = self.earlier[-1]
        if not all(store.keeps(table) for store, _ in self.attached.values()):
            return Clash
        self.told.pop()
        self.earlier.pop()
        return self.come(self.word(self.current), table, rows, current)

    def do_branch(self, step, name):
        word = step[0]
        if word == "branch":
            if name in self.rows:
                return Taken
            if len(self.rows) == 8:
                return TooMany
            return self.changed(step, self.table, {**self.rows, name: self.rows[self.current]}, name)
        if name not in self.rows:
            return UnknownBranch
        if word == "go":
            return self.changed(step, self.table, self.rows, name)
        if word == "drop":
            rest = {other: row for other, row in self.rows.items() if other != name}
            return Taken if name == self.current else self.changed(step, self.table, rest, self.current)
        p, q = self.common(name)
        if word == "lay":
            return self.row_is(step, [*self.rows[name], *formed(self.table, p)])
        if word == "merge" and not all(passes(self.table, one, other) for one, _ in p for other, _ in q):
            return Barred
        if word == "together" and times(self.table, p, q) != times(self.table, q, p):
            return Clash
        return self.row_is(step, [*self.rows[self.current], *formed(self.table, q)])


def random_step(source, tables, size):
    """A random change, mostly a possible one."""
    word = source.choice([
        "do", "do", "do", "do", "do", "do", "take_out", "move", "shorten", "branch", "go", "go", "go", "drop",
        "merge", "merge", "merge", "together", "together", "lay", "change", "undo", "undo",
    ])
    if word == "do":
        return (word, source.choice([*tables[0].kinds, "zz"] if source.randrange(9) == 0 else tables[0].kinds),
                source.randint(-2, 2))
    if word in ("shorten", "undo"):
        return (word,)
    if word == "take_out":
        return (word, source.randint(-1, size))
    if word == "move":
        return (word, source.randint(0, size), source.randint(-1, size))
    if word == "change":
        return (word, source.choice(tables))
    return (word, source.choice(["main", "side", "third", "fourth"]))


class TestWhatever(Raising):
    """[13]: whatever is done in a house, in any order."""

    def test_random_changes(self):
        errors = set()
        for source in sources(120, 101):
            kinds = list(NAMES[:source.randint(1, 4)])
            tables = [Table(kinds, random_pairs(source, kinds, source.choice([0, 5, 10]))) for _ in range(3)]
            house, model = House(tables[0]), Model(tables[0])
            moves = {kinds[0]: (1, 2, 0), kinds[-1]: (2, 0, 1) if source.randrange(3) else (1, 0, 2)}
            for at in range(25):
                if not house.stores and source.randrange(8) == 0 and Store(3, moves).keeps(house.table):
                    house.attach("wheel", Store(3, moves), 1)
                    model.attached["wheel"] = (Store(3, moves), 1)
                step = ("branch", "side") if at == 2 else random_step(source, tables, len(house.row))
                errors.add(self.check_step(house, model, step))
                self.check_state(house, model)
        self.assertEqual(errors, {
            None, UnknownKind, NoDeed, Taken, UnknownBranch, Barred, Clash,
        })

    def check_step(self, house, model, step):
        before = state(house)
        expected = model.do_step(step)
        work = getattr(house, step[0])
        if isinstance(expected, type):
            with self.assertRaises(expected) as caught:
                work(*step[1:])
            self.assertIs(type(caught.exception), expected)
            self.assertEqual(state(house), before)
            return expected
        amends = work(*step[1:])
        if expected is None:
            self.assertIsNone(amends)
        else:
            self.assertIs(type(amends), Version)
            self.assertEqual((amends.table, word_of(amends)), (house.table, expected))
        return None

    def check_state(self, house, model):
        self.assertEqual((house.table, house.current, house.names, len(house)), (
            model.table, model.current, tuple(sorted(model.rows)), len(model.rows)))
        for name, row in model.rows.items():
            self.assertEqual((house[name].table, house[name].syllables), (model.table, row))
            self.assertIs(name in house, True)
        self.assertEqual(house.row, house[house.current])
        self.assertEqual(house.version, Version.of(house.row))
        self.assertEqual(house.log(), model.told)
        for name, (store, start) in model.attached.items():
            self.assertEqual(house.standing(name), led(store.moves, model.rows[model.current], start))

    def test_undoing_everything_leads_back_through_all_states(self):
        for source in sources(40, 102):
            kinds = list(NAMES[:source.randint(1, 4)])
            tables = [Table(kinds, random_pairs(source, kinds, 5)) for _ in range(2)]
            house = House(tables[0])
            states = []
            for _ in range(12):
                step = random_step(source, tables, len(house.row))
                before = state(house)
                try:
                    amends = getattr(house, step[0])(*step[1:])
                except (UndoError, UnknownKind, UnknownBranch):
                    continue
                if step[0] != "undo":
                    states.append((before, amends))
                elif amends is not None:
                    states.pop()
            for before, amends in reversed(states):
                back = house.undo()
                self.assertEqual(back, Version(before[0]) if back.table != amends.table else ~amends)
                self.assertEqual(state(house), before)
            self.assertIsNone(house.undo())


class TestHouse(Raising):
    def test_example_of_section_18(self):
        house = House(Table(["a", "b", "c"], [("a", "b")]))
        done = [house.do("a"), house.do("c", 2), house.branch("side"), house.do("b", -1)]
        self.assertEqual([str(one) for one in done], ["a", "c^2", "-", "b^-1"])
        found = (str(house.take_out(0)), str(house.row), str(house["main"]))
        self.assertEqual(found, ("b c^-2 a^-1 c^2 b^-1", "c^2 b^-1", "a c^2"))
        self.assertEqual((str(house.undo()), house.log()[-1]), ("b c^-2 a c^2 b^-1", ("do", "b", -1)))

    def test_at_first(self):
        house = House(table=ABC)
        self.assertEqual((house.table, house.current, house.names, house.stores), (ABC, "main", ("main",), ()))
        self.assertEqual((house.row, house.version, len(house), house.log()), (Row(ABC), Version(ABC), 1, []))
        self.assertEqual(house["main"], Row(ABC))
        self.assertEqual(["main" in house, "side" in house, "" in house, "a b" in house], [True, False, False, False])
        self.assertIsNone(house.undo())
        for name in ("side", "", "Main", "main "):
            self.assert_error(UnknownBranch, {"name": name}, lambda: house[name])
        for name in ("table", "current", "names", "row", "version", "stores"):
            self.assertIn(name, vars(house))

    def test_arguments_by_name(self):
        house = House(ABC)
        house.do(kind="a", count=3)
        house.do(count=1, kind="c")
        house.move(at=0, to=1)
        house.take_out(at=0)
        house.branch(name="side")
        house.merge(name="main"), house.together(name="main"), house.lay(name="main"), house.go(name="main")
        house.drop(name="side")
        house.change(table=NEAR)
        house.attach(name="x", store=TWIST, standing=0)
        self.assertEqual(house.standing(name="x"), 0)
        self.assertEqual(house.tried(steps=[("undo",)]), (Version(ABC),))
        self.assertEqual(house.within(work=lambda one: one.current), "main")
        self.assertEqual(house.log(), [
            ("do", "a", 3), ("do", "c", 1), ("move", 0, 1), ("take_out", 0), ("branch", "side"), ("merge", "main"),
            ("together", "main"), ("lay", "main"), ("go", "main"), ("drop", "side"), ("change", NEAR),
        ])

    def test_equality(self):
        def made(*steps, table=ABC):
            house = House(table)
            for name, *rest in steps:
                getattr(house, name)(*rest)
            return house

        side = made(("do", "a"), ("branch", "side"))
        same = made(("branch", "side"), ("do", "a"), ("go", "main"), ("do", "a"), ("go", "side"))
        self.assertTrue(side == same)
        self.assertFalse(side != same)
        same.attach("x", TWIST, 0)
        self.assertTrue(side == same)
        for other in (
            made(), made(("do", "a"), ("branch", "side"), ("go", "main")), made(("do", "a"), ("branch", "third")),
            made(("do", "a"), ("branch", "side"), ("do", "b", 0)), made(("do", "a", 2), ("branch", "side")),
            made(("do", "a"), ("branch", "side"), table=NEAR), made(("do", "a"), ("branch", "side"), ("branch", "x")),
            None, 1, "side", side.row, [side],
        ):
            self.assertFalse(side == other)
            self.assertTrue(side != other)

    def test_changes_without_effect_are_changes(self):
        house = House(ABC)
        house.do("c", 3)
        empty = Version(ABC)
        for step in (
            ("do", "a", 0), ("go", "main"), ("merge", "main"), ("lay", "main"), ("change", ABC), ("move", 1, 1),
            ("shorten",), ("shorten",),
        ):
            before = len(house.log())
            self.assertEqual(getattr(house, step[0])(*step[1:]), empty)
            self.assertEqual(house.log()[before:], [step])
        self.assertEqual(str(house.row), "c^3")
        # The base is the version itself; so there is nothing to add.
        self.assertEqual((house.together("main"), str(house.row)), (empty, "c^3"))


class TestChanges(Raising):
    def test_do_and_unknown_kinds(self):
        house = House(ABC)
        found = [str(house.do("a")), str(house.do("a", -1)), str(house.do("c", GREAT))]
        self.assertEqual(found, ["a", "a^-1", f"c^{GREAT}"])
        self.assertEqual(str(house.row), f"a a^-1 c^{GREAT}")
        for kind in ("d", "", "A", "a "):
            self.assert_error(UnknownKind, {"name": kind}, house.do, kind)
            self.assert_error(UnknownKind, {"name": kind}, house.do, kind, 0)
        self.assertEqual(len(house.log()), 3)

    def test_taking_out_and_moving(self):
        house = House(ABC)
        for kind, count in row_of("a b c b^2"):
            house.do(kind, count)
        for at in (-1, 4, 10 ** 40):
            self.assert_error(NoDeed, {"at": at}, house.take_out, at)
            self.assert_error(NoDeed, {"at": at}, house.move, at, 0)
            self.assert_error(NoDeed, {"at": at}, house.move, 0, at)
        self.assert_error(NoDeed, {"at": -7}, house.move, -7, 9)
        self.assertEqual(str(house.move(0, 3)), "b^-2 c^-1 a^-1 c a b^2")
        self.assertEqual(str(house.row), "b c b^2 a")
        self.assertEqual(str(house.take_out(1)), "a^-1 b^-2 c^-1 a b^2")
        self.assertEqual(str(house.shorten()), "-")
        self.assertEqual((str(house.row), house.log()[-1]), ("a b^3", ("shorten",)))

    def test_branches(self):
        house = House(ABC)
        house.do("a")
        for name in ("", "A", "sidetracks", "a1", "main "):
            self.assert_error(InvalidCommand, {}, house.branch, name)
        self.assert_error(Taken, {"name": "main"}, house.branch, "main")
        for name in BRANCHES:
            self.assertEqual(house.branch(name), Version(ABC))
            self.assertEqual((house.current, house.row), (name, house["main"]))
        self.assertEqual((len(house), house.names), (8, tuple(sorted(["main", *BRANCHES]))))
        self.assert_error(TooMany, {"count": 8}, house.branch, "nine")
        self.assert_error(Taken, {"name": "six"}, house.branch, "six")
        self.assert_error(InvalidCommand, {}, house.branch, "Six")
        self.assertEqual(len(house.log()), 8)
        self.assert_error(Taken, {"name": "eight"}, house.drop, "eight")
        self.assert_error(UnknownBranch, {"name": "nine"}, house.drop, "nine")
        self.assertEqual(house.drop("main"), Version(ABC))
        self.assertEqual(("main" in house, len(house)), (False, 7))
        house.branch("nine")
        self.assertEqual([house.undo(), house.undo()], [Version(ABC)] * 2)
        self.assertEqual((house.current, "main" in house, "nine" in house), ("eight", True, False))

    def test_going(self):
        house = House(ABC)
        house.do("a")
        house.branch("side")
        house.do("c", 2)
        self.assertEqual((str(house.go("main")), house.current), ("c^-2", "main"))
        self.assertEqual((str(house.go("side")), str(house.go("side"))), ("c^2", "-"))
        self.assertEqual(str(house.undo()), "-")
        self.assertEqual((str(house.undo()), house.current), ("c^-2", "main"))
        for work in (house.go, house.drop, house.merge, house.together, house.lay):
            self.assert_error(UnknownBranch, {"name": "third"}, work, "third")

    def two_branches(self, common, one, other):
        """A house with a branch that is the current one, and one called other."""
        house = House(ABC)
        for kind, count in row_of(common):
            house.do(kind, count)
        house.branch("other")
        for kind, count in row_of(other):
            house.do(kind, count)
        house.go("main")
        for kind, count in row_of(one):
            house.do(kind, count)
        return house

    def test_merging(self):
        house = self.two_branches("c", "a^3", "a^5 b")
        self.assertEqual(str(house.merge("other")), "a^2 b")
        self.assertEqual((str(house.row), str(house["other"])), ("c a^3 a^2 b", "c a^5 b"))
        self.assertEqual(str(house.merge("other")), "-")
        house = self.two_branches("c", "a^3", "a^5 b")
        # What both have beyond the base: a^3 is common, so nothing of it is done twice.
        self.assertEqual(str(house.together("other")), "a^2 b")
        house = self.two_branches("c", "a^3", "a^-2 b")
        self.assert_error(Barred, {"one": ("a", 3), "other": ("a", -2)}, house.merge, "other")
        self.assertEqual((str(house.together("other")), str(house.row)), ("a^-2 b", "c a^3 a^-2 b"))
        house = self.two_branches("c", "a", "c")
        self.assert_error(Barred, {"one": ("a", 1), "other": ("c", 1)}, house.merge, "other")
        self.assert_error(Clash, {"version": version("a c a^-1 c^-1")}, house.together, "other")
        self.assertEqual(house.log()[-1], ("do", "a", 1))

    def test_laying(self):
        house = self.two_branches("c b", "a c^-1 b", "a c c")
        # The common beginning is c a b: what the current branch has beyond it is c^-1 b.
        self.assertEqual(str(house.lay("other")), str(~version("c a b c^-1 b") * version("c a b c b")))
        self.assertEqual((str(house.row), str(house["other"])), ("c b a c c c^-1 b", "c b a c c"))
        self.assertEqual(house.log()[-1], ("lay", "other"))
        house = self.two_branches("-", "a c", "a c a^-1")
        self.assertEqual((str(house.lay("other")), str(house.row)), ("a^-1", "a c a^-1"))

    def test_changing_the_table(self):
        house = House(ABC)
        for kind, count in row_of("a b a^-1"):
            house.do(kind, count)
        self.assertEqual(str(house.version), "b")
        self.assertEqual(house.change(NEAR), Version(NEAR))
        self.assertEqual((house.table, house.row), (NEAR, Row(NEAR, row_of("a b a^-1"))))
        self.assertEqual(str(house.version), "a b a^-1")
        for table in (ONE, WIDER, Table(["a", "b", "d"])):
            self.assert_error(OtherTable, {}, house.change, table)
        self.assertEqual(house["main"].table, NEAR)
        self.assertEqual(str(house.do("a")), "a")
        self.assertEqual([str(house.undo()), house.undo()], ["a^-1", Version(ABC)])
        self.assertEqual((house.table, str(house.version), len(house.log())), (ABC, "b", 3))
        self.assertEqual(house.change(TURNED), Version(ABC))
        self.assertEqual(house.undo(), Version(ABC))

    def test_all_branches_get_the_table(self):
        house = self.two_branches("a b", "c", "a")
        house.change(OTHER)
        self.assertEqual((house["main"], house["other"]), (Row(OTHER, row_of("a b c")), Row(OTHER, row_of("a b a"))))
        house.undo()
        self.assertEqual((house["main"], house["other"]), (Row(ABC, row_of("a b c")), Row(ABC, row_of("a b a"))))

    def test_undo_of_undo_and_of_nothing(self):
        house = House(ABC)
        self.assertIsNone(house.undo())
        house.do("a"), house.do("b"), house.do("c")
        self.assertEqual([str(house.undo()), str(house.undo())], ["c^-1", "b^-1"])
        house.do("c", 2)
        self.assertEqual(house.log(), [("do", "a", 1), ("do", "c", 2)])
        self.assertEqual([str(house.undo()), str(house.undo()), house.undo()], ["c^-2", "a^-1", None])
        self.assertEqual((house, house.log()), (House(ABC), []))

    def test_two_hundred_changes(self):
        house = House(BARRED)
        for at in range(200):
            house.do(KINDS[at % 12], 1)
        self.assertEqual((len(house.log()), len(house.version)), (200, 200))
        for at in reversed(range(200)):
            self.assertEqual(house.undo(), Version(BARRED, [(KINDS[at % 12], -1)]))
        self.assertIsNone(house.undo())

    def test_a_clash_beyond_the_limit_changes_nothing(self):
        house = House(ABC)
        house.branch("side")
        for kind, count in alternating("a", "c", 251):
            house.do(kind, count)
        house.go("main")
        for kind, count in alternating("c", "a", 251):
            house.do(kind, count)
        before = state(house)
        self.assert_error(TooMany, {"count": 1000}, house.together, "side")
        self.assert_error(Barred, {"one": ("c", 1), "other": ("a", 1)}, house.merge, "side")
        self.assertEqual(state(house), before)


class TestStores(Raising):
    def test_attaching(self):
        house = House(ABC)
        house.do("a", 4)
        self.assertIsNone(house.attach("wheel", TWIST, 1))
        self.assertEqual((house.standing("wheel"), house.stores), (2, ("wheel",)))
        house.attach("again", TWIST, 0)
        self.assertEqual((house.standing("again"), house.stores), (1, ("again", "wheel")))
        self.assertEqual(house.log(), [("do", "a", 4)])
        # Names of stores and of branches are apart.
        house.attach("main", TWIST, 2)
        self.assertEqual((house.standing("main"), house.names), (0, ("main",)))
        house.do("b", GREAT)
        self.assertEqual(house.standing("wheel"), (2 + 2 * GREAT) % 3)

    def test_errors_of_attach(self):
        house = House(ABC)
        house.attach("wheel", TWIST, 1)
        self.assertIs(SWAPS.keeps(ABC), False)
        for name in ("", "Wheel", "wheels0", "stopwatch"):
            self.assert_error(InvalidCommand, {}, house.attach, name, SWAPS, 0)
        self.assert_error(Taken, {"name": "wheel"}, house.attach, "wheel", SWAPS, 0)
        self.assert_error(Clash, {"version": None}, house.attach, "swaps", SWAPS, 0)
        self.assertEqual(house.stores, ("wheel",))
        for name in ("main", "swaps", ""):
            self.assert_error(UnknownBranch, {"name": name}, house.standing, name)

    def test_stores_stay_when_changes_are_undone(self):
        house = House(ABC)
        house.do("a")
        house.attach("wheel", TWIST, 0)
        house.branch("side")
        house.do("b")
        self.assertEqual(house.standing("wheel"), 0)
        house.go("main")
        self.assertEqual(house.standing("wheel"), 1)
        for _ in range(4):
            house.undo()
        self.assertEqual((house.standing("wheel"), house.stores, house.undo()), (0, ("wheel",), None))

    def test_tables_that_a_store_does_not_keep(self):
        house = House(NEAR)
        house.change(ABC)
        house.change(NEAR)
        house.attach("swaps", SWAPS, 0)
        before = state(house)
        self.assert_error(Clash, {"version": None}, house.change, ABC)
        self.assert_error(OtherTable, {}, house.change, ONE)
        self.assert_error(Clash, {"version": None}, house.undo)
        self.assertEqual(state(house), before)
        house.do("a")
        self.assertEqual(str(house.undo()), "a^-1")
        self.assert_error(Clash, {"version": None}, house.undo)
        self.assertEqual(house.change(OTHER), Version(OTHER))
        self.assertEqual((house.undo(), house.log()), (Version(NEAR), [("change", ABC), ("change", NEAR)]))


class TestBlocks(Raising):
    def busy(self):
        house = House(ABC)
        house.do("a", 2)
        house.branch("side")
        house.do("c")
        house.attach("wheel", TWIST, 1)
        return house

    def upset(self, house):
        """Change all that can be changed."""
        house.undo()
        house.do("b", 5)
        house.attach("twist", TWIST, 2)
        house.change(OTHER.without_pair("a", "c"))
        house.branch("third")
        house.drop("main")
        house.shorten()

    def test_a_block_leaves_the_house_as_it_was(self):
        house = self.busy()
        before = state(house)
        with house.trial() as trial:
            self.assertIs(trial, house)
            self.upset(house)
            self.assertNotEqual(state(house)[:8], before[:8])
            self.assertEqual(house.stores, ("twist", "wheel"))
        self.assertEqual(state(house), before)
        self.assert_error(UnknownBranch, {"name": "twist"}, house.standing, "twist")
        house.attach("twist", TWIST, 0)
        self.assertEqual([str(house.undo()) for _ in range(3)], ["c^-1", "-", "a^-2"])
        self.assertIsNone(house.undo())

    def test_blocks_inside_blocks_left_by_an_error(self):
        house = self.busy()
        before = state(house)
        with self.assertRaises(ZeroDivisionError):
            with house.trial():
                house.do("b")
                inner = state(house)
                with self.assertRaises(NoDeed):
                    with house.trial():
                        self.upset(house)
                        house.take_out(99)
                self.assertEqual(state(house), inner)
                with house.trial():
                    house.undo()
                    house.undo()
                    with house.trial():
                        self.upset(house)
                    house.go("main")
                self.assertEqual(state(house), inner)
                self.upset(house)
                raise ZeroDivisionError()
        self.assertEqual(state(house), before)

    def test_a_new_manager_each_time(self):
        house = self.busy()
        before = state(house)
        house.trial()
        self.assertIsNot(house.trial(), house.trial())
        house.do("a")
        with house.trial():
            house.do("b")
        self.assertEqual(str(house.undo()), "a^-1")
        self.assertEqual(state(house), before)

    def test_tried(self):
        house = self.busy()
        before = state(house)
        steps = [("do", "b", -1), ("take_out", 0), ("undo",), ("branch", "third"), ("undo",), ("undo",), ("undo",)]
        found = house.tried(steps)
        self.assertIs(type(found), tuple)
        self.assertEqual([str(one) for one in found], [
            "b^-1", "b c^-1 a^-2 c b^-1", "b c^-1 a^2 c b^-1", "-", "-", "b", "c^-1",
        ])
        self.assertEqual(house.tried(tuple(steps)), found)
        self.assertEqual(state(house), before)
        self.assertEqual((house.tried([]), house.tried(())), ((), ()))
        self.assertEqual(House(ABC).tried([("undo",)]), (None,))
        self.assertEqual(len(steps), 7)

    def test_all_changes_can_be_tried(self):
        house = self.busy()
        steps = [
            ("do", "b", 2), ("take_out", 0), ("move", 0, 1), ("shorten",), ("branch", "third"), ("go", "main"),
            ("merge", "main"), ("together", "main"), ("lay", "main"), ("drop", "third"), ("change", NEAR),
        ]
        self.assertEqual(len(house.tried(steps)), len(steps))
        with house.trial():
            told = len(house.log())
            for name, *rest in steps:
                getattr(house, name)(*rest)
            self.assertEqual(house.log()[told:], steps)
            log = house.log()
        again = House(ABC)
        again.tried(log)
        self.assertEqual(again, House(ABC))
        for name, *rest in log:
            getattr(again, name)(*rest)
        self.assertEqual(again.log(), log)

    def test_errors_in_tried_go_on(self):
        house = self.busy()
        before = state(house)
        self.assert_error(NoDeed, {"at": 9}, house.tried, [("do", "a", 1), ("take_out", 9), ("do", "zz", 1)])
        self.assert_error(UnknownKind, {"name": "zz"}, house.tried, (("undo",), ("do", "zz", 1), ("take_out", 9)))
        many = [("branch", "b" * k) for k in range(1, 7)] + [("branch", "x")]
        self.assert_error(TooMany, {"count": 8}, house.tried, many)
        self.assertEqual(state(house), before)

    def test_within(self):
        house = self.busy()
        before = state(house)

        def work(one):
            self.assertIs(one, house)
            self.upset(one)
            return one.current, one.within(lambda two: [two.undo(), two.row][1])

        self.assertEqual(house.within(work)[0], "third")
        self.assertEqual(state(house), before)
        self.assertIsNone(house.within(lambda one: None))

        def failing(one):
            one.do("a")
            one.go("nowhere")

        self.assert_error(UnknownBranch, {"name": "nowhere"}, house.within, failing)
        self.assertEqual(state(house), before)

    def test_a_store_attached_within_a_block_bars_nothing_behind_it(self):
        house = House(NEAR)
        with house.trial():
            house.attach("swaps", SWAPS, 0)
            self.assert_error(Clash, {"version": None}, house.change, ABC)
        self.assertEqual(house.change(ABC), Version(ABC))
        with house.trial():
            self.assert_error(Clash, {"version": None}, house.attach, "swaps", SWAPS, 0)


class TestReturned(Raising):
    def test_logs_are_new_lists(self):
        house = House(ABC)
        house.do("a")
        log = house.log()
        log.append(("do", "b", 1))
        log[0] = None
        self.assertEqual(house.log(), [("do", "a", 1)])
        self.assertIs(type(house.log()), list)
        self.assertTrue(all(type(step) is tuple for step in house.log()))
        self.assertIs(type(house.names), tuple)
        self.assertIs(type(house.stores), tuple)

    def test_the_least_amends_only(self):
        """The store is moved by the amends alone, from change to change."""
        for source in sources(40, 103):
            kinds = list(NAMES[:4])
            table = Table(kinds, [("a", "b"), ("b", "d")])
            store = Store(4, {"a": (1, 2, 3, 0), "b": (2, 3, 0, 1), "c": (1, 0, 2, 3), "d": (2, 3, 0, 1)})
            self.assertIs(store.keeps(table), True)
            house = House(table)
            house.attach("one", store, source.randrange(4))
            for _ in range(20):
                step = random_step(source, [table], len(house.row))
                before = house.standing("one"), house.version
                try:
                    amends = getattr(house, step[0])(*step[1:])
                except (UndoError, UnknownKind, UnknownBranch):
                    continue
                if amends is not None:
                    self.assertEqual(store(amends, before[0]), house.standing("one"))
                    self.assertEqual(before[1] * amends, house.version)

    def test_the_same_question_has_an_equal_answer(self):
        house = House(FREE)
        house.do("a")
        found = [house.version, house.row, house.log(), house["main"], len(house), "main" in house]
        house.tried([("do", "b", 1), ("branch", "x")])
        self.assertEqual([house.version, house.row, house.log(), house["main"], len(house), "main" in house], found)
