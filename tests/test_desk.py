"""Tests of [49] and [50]: the desk."""

from helping import Raising
from reference import sources
from undoamid.between import count_between
from undoamid.desk import Desk
from undoamid.errors import (
    Barred, Clash, InvalidCommand, InvalidTable, InvalidText, NoDeed, Taken, TooMany, UndoError, UnknownBranch,
    UnknownKind,
)
from undoamid.houses import House
from undoamid.parting import core
from undoamid.rounds import root
from undoamid.rows import Row
from undoamid.tables import Table
from undoamid.versions import Version

ABC = "table kinds a b c ; free a b"


def desk(*commands):
    """A desk to which these commands were said."""
    made = Desk()
    for command in commands:
        made.say(command)
    return made


def state(made):
    """All that a desk shows."""
    if len(made) == 0:
        return (0,)
    return len(made), made.say("row"), made.say("form")


class TestCommands(Raising):
    def say_all(self, made, *told):
        for command, expected in told:
            self.assertEqual(made.say(command), expected, command)

    def test_every_command(self):
        made = Desk()
        self.assertEqual(len(made), 0)
        self.say_all(
            made, (ABC, "table of 3 kinds"), ("row", "-"), ("form", "-"), ("root", "0 -"), ("count", "1"),
            ("undo", "nothing"), ("alike -", "alike"), ("do a", "a"), ("do b 3", "b^3"), ("do a -1", "a^-1"),
            ("do c 0", "-"), ("do c 2", "c^2"), ("row", "a b^3 a^-1 c^0 c^2"), ("form", "b^3 c^2"),
            ("out 1", "c^-2 b^-3 c^2"),
            ("undo", "c^-2 b^3 c^2"), ("move 4 0", "c^-2 b^-3 c^2 b^3"), ("row", "c^2 a b^3 a^-1 c^0"),
            ("shorten", "-"),
            ("row", "c^2 b^3"), ("branch side", "-"), ("do a 2", "a^2"), ("count", "14"), ("go main", "a^-2"),
            ("do b -1", "b^-1"), ("together side", "a^2 b"), ("undo", "a^-2 b^-1"), ("lay side", "a^2 b"),
            ("row", "c^2 b^3 a^2"),
        )
        self.assertEqual(len(made), 2)

    def test_the_text_of_a_table(self):
        for command, text in (
            ("table kinds a", "table of 1 kinds"), ("table kinds get put see ; free see get", "table of 3 kinds"),
            ("table kinds " + " ".join("lkjihgfedcba"), "table of 12 kinds"),
            ("table kinds a b c ; free a b ; free c b", "table of 3 kinds"),
        ):
            made = Desk()
            self.assertEqual(made.say(command), text)
            self.assertEqual((len(made), made.say("row")), (1, "-"))
        self.assert_error(InvalidText, {"at": 0}, Desk().say, "table a b")
        for command, at in (
            ("table kinds", 0), ("table kinds a a", 0), ("table kinds A", 0), ("table kinds a ;", 0),
            ("table ; kinds a", 0),
            ("table kinds a b;free a b", 0), ("table kinds a b ; free a c", 1), ("table kinds a b ; ; free a b", 1),
            ("table kinds a b ; free a b ; free b a", 2), ("table kinds a b ; kinds a b", 1),
            ("table kinds a b ; free a b ;", 1),
            ("table free a b ; kinds a b", 0), ("table ;", 0), ("table table kinds a", 0),
        ):
            self.assert_error(InvalidText, {"at": at}, Desk().say, command)
            made = desk(ABC, "do a", "branch side")
            self.assert_error(InvalidText, {"at": at}, made.say, command)
            self.assertEqual((len(made), made.say("row")), (2, "a"))

    def test_a_new_table_makes_a_new_house(self):
        made = desk(ABC, "do a", "branch side")
        self.say_all(made, ("table kinds c d", "table of 2 kinds"), ("row", "-"), ("undo", "nothing"), ("do d", "d"))
        self.assertEqual(len(made), 1)
        self.assert_error(UnknownKind, {"name": "a"}, made.say, "do a")

    def test_great_numbers(self):
        made = desk(ABC)
        great = "9" * 21
        self.say_all(made, (f"do a {great}", f"a^{great}"), (f"do a -{great}", f"a^-{great}"))
        self.say_all(made, (f"do c {great}", f"c^{great}"))
        self.say_all(made, ("root", f"{great} c"), ("count", "1" + "0" * 21), (f"alike c^{great}", "alike"))
        self.assertEqual(made.say("alike -"), f"parted 1 {great}")
        for _ in range(60):
            made.say(f"do b {great}")
        self.assertEqual(made.say("form"), f"c^{great} b^{60 * int(great)}")
        self.assertEqual(made.say("count"), str(1 + int(great) + 60 * int(great)))

    def test_alike(self):
        made = desk(ABC, "do a", "do b 2", "do c", "do a -1")
        self.say_all(
            made, ("alike b^2 a c a^-1", "alike"), ("alike a b^2 c a^0 a^-1", "alike"), ("alike a b^2 c", "parted 1 1"),
            ("alike a b^2 c a", "parted 1 2"), ("alike c a a^-1 b^2", "parted 4 6"), ("alike -", "parted 1 1"),
            ("alike a b^4 c a^-1", "parted 1 2"),
        )
        for command, at in (
            ("alike x", 0), ("alike a b^1 c", 1), ("alike a b c^01", 2), ("alike - a", 0), ("alike a -", 1),
            ("alike a^-0", 0),
            ("alike a^+2", 0), ("alike a^" + "9" * 22, 0), ("alike alike a", 0), ("alike ;", 0), ("alike a b d", 2),
        ):
            self.assert_error(InvalidText, {"at": at}, made.say, command)

    def test_texts_agree_with_the_functions(self):
        for source in sources(30, 111):
            made = desk(ABC)
            table = Table(["a", "b", "c"], [("a", "b")])
            house = House(table)
            for _ in range(10):
                kind, count = source.choice("abc"), source.randint(-2, 2)
                self.assertEqual(made.say(f"do {kind} {count}"), str(house.do(kind, count)))
            empty, other = Version(table), Version(table, [("c", 1), ("a", 1)])
            base, power = root(house.version)
            self.say_all(
                made, ("row", str(house.row)), ("form", str(house.version)), ("root", f"{power} {base}"),
                ("count", str(count_between(empty, house.version))), ("alike " + str(house.version), "alike"),
            )
            rest = core(house.version, other)
            expected = f"parted {len(rest)} {rest.turns}" if rest else "alike"
            self.assertEqual(made.say("alike c a"), expected)
            for at in range(10):
                self.assertEqual(made.say(f"out {9 - at}"), str(house.take_out(9 - at)))


class TestErrors(Raising):
    def test_values_that_are_no_strings(self):
        for made in (Desk(), desk(ABC)):
            before = state(made)
            for value in (None, True, False, 0, 1, (), [], ("row",), ["row"], [["row"]], ("do", "a"), 10 ** 40, -1):
                self.assert_error(InvalidCommand, {}, made.say, value)
                self.assert_error(InvalidCommand, {}, made.say, command=value)
            self.assertEqual(state(made), before)

    def test_words_left_out_put_in_or_replaced(self):
        forms = [
            "do a", "do a 2", "out 0", "move 0 1", "shorten", "branch new", "go main", "drop side", "merge side",
            "together side", "lay side", "undo", "row", "form", "root", "count",
        ]
        made = desk(ABC, "do a", "do b", "branch side", "go main")
        before = state(made)
        for form in forms:
            words = form.split(" ")
            wrong = [
                form + " ", " " + form, form + "\n", "\n" + form, form.replace(" ", "  "), form.replace(" ", "\n"),
                form + " x y z", form.upper(), form.title(), form + " -", words[0] + " " + form, words[0] + "s",
                form.replace(" ", "\t"), form + ";", "-" + form, form + " ;",
            ]
            wrong += [" ".join(words[:at] + words[at + 1:]) for at in range(len(words))]
            wrong += [" ".join(words[:at] + ["A"] + words[at:]) for at in range(len(words) + 1)]
            wrong += [" ".join(words[:at] + ["A"] + words[at + 1:]) for at in range(len(words))]
            for command in wrong:
                if command not in forms:
                    self.assert_error(InvalidCommand, {}, made.say, command)
        self.assertEqual(state(made), before)

    def test_names_and_numbers(self):
        made = desk(ABC, "do a", "do b")
        before = state(made)
        for word in ("do", "branch", "go", "drop", "merge", "together", "lay"):
            for name in ("A", "a1", "abcdefg", "1", "a^2", "a-b", "-"):
                self.assert_error(InvalidCommand, {}, made.say, f"{word} {name}")
        great = "9" * 22
        for number in ("01", "-0", "+1", "00", "-01", "1.0", "a", "--1", "-", "1-", great, "-" + great, "1_0", "a^2"):
            for command in (f"do a {number}", f"out {number}", f"move {number} 0", f"move 0 {number}"):
                self.assert_error(InvalidCommand, {}, made.say, command)
        for command in (
            "", " ", "  ", "\n", "x", "Row", "table", "table ", "alike", "alike ", "alike  a", "table  kinds a",
            "table kinds  a", "table kinds a\nfree a b", "table kinds a ;  ; free", "do a 1 2", "out 0 1",
        ):
            self.assert_error(InvalidCommand, {}, made.say, command)
            self.assert_error(InvalidCommand, {}, Desk().say, command)
        self.assertEqual(state(made), before)

    def test_without_a_house(self):
        made = Desk()
        for command in (
            "do a", "do a 2", "out 0", "move 0 1", "shorten", "branch side", "go main", "drop main", "merge main",
            "undo", "together main", "lay main", "row", "form", "alike -", "alike x^^", "root", "count",
        ):
            self.assert_error(InvalidCommand, {}, made.say, command)
        self.assert_error(InvalidText, {"at": 0}, made.say, "table x")
        self.assert_error(InvalidCommand, {}, made.say, "row")
        self.assertEqual(len(made), 0)

    def test_the_errors_of_the_methods(self):
        made = desk(ABC, "do a", "do c", "branch side", "do b", "go main", "do c")
        before = state(made)
        for command, error, told in (
            ("do d", UnknownKind, {"name": "d"}), ("do get 3", UnknownKind, {"name": "get"}),
            ("out 3", NoDeed, {"at": 3}),
            ("out -1", NoDeed, {"at": -1}), ("move 3 0", NoDeed, {"at": 3}), ("move 0 -5", NoDeed, {"at": -5}),
            ("move 7 8", NoDeed, {"at": 7}), ("branch main", Taken, {"name": "main"}),
            ("go third", UnknownBranch, {"name": "third"}),
            ("drop main", Taken, {"name": "main"}), ("drop third", UnknownBranch, {"name": "third"}),
            ("merge third", UnknownBranch, {"name": "third"}), ("merge side", Barred, {"one": ("c", 1),
            "other": ("b", 1)}),
            ("lay third", UnknownBranch, {"name": "third"}), ("together third", UnknownBranch, {"name": "third"}),
            ("out " + "9" * 21, NoDeed, {"at": int("9" * 21)}),
        ):
            self.assert_error(error, told, made.say, command)
        table = Table(["a", "b", "c"], [("a", "b")])
        told = {"version": Version(table, [("c", 1), ("b", 1), ("c", -1), ("b", -1)])}
        self.assert_error(Clash, told, made.say, "together side")
        self.assertEqual(state(made), before)

    def test_eight_branches(self):
        made = desk(ABC, *["branch " + name * 2 for name in "abcdefg"])
        self.assertEqual(len(made), 8)
        self.assert_error(TooMany, {"count": 8}, made.say, "branch hh")
        self.assert_error(Taken, {"name": "aa"}, made.say, "branch aa")
        made.say("drop main")
        self.assertEqual((len(made), made.say("branch hh"), len(made)), (7, "-", 8))

    def test_the_count_beyond_two_thousand_parts(self):
        pairs = " ; ".join(f"free {one} {other}" for one in "abcdefghijk" for other in "abcdefghijk" if one < other)
        made = desk("table kinds a b c d e f g h i j k ; " + pairs, *["do " + kind for kind in "abcdefghij"])
        self.assertEqual(made.say("count"), "1024")
        made.say("do k")
        self.assert_error(TooMany, {"count": 2000}, made.say, "count")
        self.assertEqual(made.say("root"), "1 a b c d e f g h i j k")

    def test_errors_are_those_of_the_package(self):
        self.assertTrue(issubclass(InvalidCommand, UndoError) and not issubclass(InvalidTable, InvalidText))


class TestRows(Raising):
    def test_rows_of_sixty_syllables(self):
        made = desk(ABC)
        words = ["acbac"[at * at % 5] for at in range(60)]
        for word in words:
            made.say("do " + word)
        self.assertEqual(made.say("row"), " ".join(words))
        self.assertEqual(made.say("alike " + " ".join(words)), "alike")
        table = Table(["a", "b", "c"], [("a", "b")])
        self.assertEqual(made.say("form"), str(Version.of(Row.read(table, " ".join(words)))))

    def test_the_same_command_has_the_same_text(self):
        made = desk(ABC, "do a", "do c", "do b 2")
        asked = ["row", "form", "alike a c b", "alike a c b^2", "root", "count"]
        first = [made.say(command) for command in asked]
        self.assertEqual([made.say(command) for command in asked[::-1]][::-1], first)
        other = desk("table kinds x y")
        other.say("do x")
        self.assertEqual([made.say(command) for command in asked], first)
        self.assertEqual(first[:2], ["a c b^2", "a c b^2"])
