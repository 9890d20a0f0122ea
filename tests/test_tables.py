"""Tests of [5], [15], [16] and [17]: tables, and of [2] as far as it concerns them."""

import itertools
import unittest

from undoamid.errors import InvalidTable, InvalidText, UnknownKind
from undoamid.rows import Row
from undoamid.tables import Table

TWELVE = ["l", "k", "j", "i", "h", "g", "f", "e", "d", "c", "b", "a"]
WRONG_NAMES = [
    "", "A", "aB", "a1", "1", "a b", " a", "a ", "a\n", "\n", "a-b", "a_b", "abcdefg", "^", "a^2", "`", "{", "-",
]


class Raising(unittest.TestCase):
    def assert_table_error(self, word, at, work, *arguments, **named):
        with self.assertRaises(InvalidTable) as caught:
            work(*arguments, **named)
        self.assertEqual((caught.exception.word, caught.exception.at), (word, at))

    def assert_text_error(self, at, text):
        with self.assertRaises(InvalidText) as caught:
            Table.read(text)
        self.assertEqual(caught.exception.at, at)

    def assert_unknown(self, name, work, *arguments):
        with self.assertRaises(UnknownKind) as caught:
            work(*arguments)
        self.assertEqual(caught.exception.name, name)


class TestMaking(Raising):
    def test_kinds_are_ascending(self):
        self.assertEqual(Table(["c", "a", "b"]).kinds, ("a", "b", "c"))
        self.assertEqual(Table(("see", "get", "put", "ge")).kinds, ("ge", "get", "put", "see"))

    def test_one_kind_and_twelve_kinds(self):
        self.assertEqual(Table(["a"]).kinds, ("a",))
        self.assertEqual(Table(TWELVE).kinds, tuple(sorted(TWELVE)))
        self.assertEqual(Table(tuple(TWELVE)).pairs, ())

    def test_names_of_one_and_of_six_letters(self):
        self.assertEqual(Table(["a", "zzzzzz", "z"]).kinds, ("a", "z", "zzzzzz"))
        self.assertEqual(Table(["kinds", "free"]).kinds, ("free", "kinds"))

    def test_pairs_are_ascending_each_once(self):
        pairs = [("c", "b"), ("a", "d"), ("b", "c"), ("b", "a"), ("a", "d"), ("c", "b")]
        table = Table(["d", "c", "b", "a"], pairs)
        self.assertEqual(table.pairs, (("a", "b"), ("a", "d"), ("b", "c")))
        self.assertEqual(Table(["a", "b"], (("b", "a"),)).pairs, (("a", "b"),))
        self.assertEqual(Table(["a", "b"]).pairs, ())

    def test_all_pairs_of_twelve_kinds(self):
        pairs = list(itertools.combinations(TWELVE, 2))
        table = Table(TWELVE, pairs)
        self.assertEqual(table.pairs, tuple(itertools.combinations(sorted(TWELVE), 2)))

    def test_attributes_are_tuples_of_strings(self):
        table = Table(["a", "b"], [("b", "a")])
        self.assertIs(type(table.kinds), tuple)
        self.assertIs(type(table.pairs), tuple)
        self.assertIs(type(table.pairs[0]), tuple)

    def test_arguments_by_name(self):
        table = Table(pairs=[("a", "b")], kinds=["b", "a"])
        self.assertEqual((table.kinds, table.pairs), (("a", "b"), (("a", "b"),)))

    def test_wrong_counts(self):
        for kinds in ([], (), TWELVE + ["m"], tuple(TWELVE) + ("m", "n")):
            self.assert_table_error("count", -1, Table, kinds)

    def test_wrong_names(self):
        for name in WRONG_NAMES:
            with self.subTest(name):
                self.assert_table_error("name", 0, Table, [name])
                self.assert_table_error("name", 2, Table, ["a", "b", name])
                self.assert_table_error("name", 1, Table, ["b", name, "b", ""])

    def test_kinds_that_occurred_before(self):
        self.assert_table_error("name", 1, Table, ["a", "a"])
        self.assert_table_error("name", 3, Table, ["b", "a", "c", "b", "A"])
        self.assert_table_error("name", 11, Table, TWELVE[:11] + ["l"])

    def test_wrong_pairs(self):
        kinds = ["a", "b", "c"]
        self.assert_table_error("pair", 0, Table, kinds, [("a", "a")])
        self.assert_table_error("pair", 1, Table, kinds, [("a", "b"), ("a", "d")])
        self.assert_table_error("pair", 2, Table, kinds, (("a", "b"), ("b", "a"), ("d", "c"), ("a", "a")))
        self.assert_table_error("pair", 0, Table, kinds, [("d", "d"), ("a", "b")])
        self.assert_table_error("pair", 0, Table, kinds, [("a", "")])
        self.assert_table_error("pair", 1, Table, kinds, [("b", "c"), ("B", "a")])

    def test_pairs_of_another_length(self):
        for pair in ((), ("a",), ("a", "b", "c")):
            self.assert_table_error("pair", 1, Table, ["a", "b", "c"], [("a", "b"), pair])

    def test_the_order_of_the_errors(self):
        self.assert_table_error("count", -1, Table, [], [("a", "a")])
        self.assert_table_error("count", -1, Table, [""] + TWELVE, [("a", "a")])
        self.assert_table_error("count", -1, Table, ["a"] * 13)
        self.assert_table_error("name", 1, Table, ["a", "", "a"], [("a", "a")])
        self.assert_table_error("name", 2, Table, ["a", "b", "A"], [("a", "x")])


class TestFree(Raising):
    def setUp(self):
        self.table = Table(["a", "b", "c"], [("b", "a")])

    def test_free_and_barred_of_each_two_kinds(self):
        for one, other in itertools.product("abc", repeat=2):
            free = {one, other} == {"a", "b"}
            with self.subTest(one, other=other):
                self.assertIs(self.table.free(one, other), free)
                self.assertIs(self.table.barred(one, other), not free and one != other)

    def test_a_kind_is_neither_free_nor_barred_with_itself(self):
        for kind in "abc":
            self.assertIs(self.table.free(kind, kind), False)
            self.assertIs(self.table.barred(kind, kind), False)

    def test_by_name(self):
        self.assertIs(self.table.free(other="a", one="b"), True)
        self.assertIs(self.table.barred(other="a", one="c"), True)

    def test_unknown_kinds(self):
        for work in (self.table.free, self.table.barred, self.table.with_pair, self.table.without_pair):
            with self.subTest(work.__name__):
                self.assert_unknown("x", work, "x", "a")
                self.assert_unknown("x", work, "a", "x")
                self.assert_unknown("y", work, "y", "x")
                self.assert_unknown("x", work, "x", "x")
                self.assert_unknown("", work, "", "A")
                self.assert_unknown("A b\n", work, "c", "A b\n")

    def test_with_pair(self):
        for one, other in itertools.permutations("abc", 2):
            made = self.table.with_pair(one, other)
            free = {("a", "b"), tuple(sorted((one, other)))}
            self.assertIs(type(made), Table)
            self.assertEqual((made.kinds, made.pairs), (("a", "b", "c"), tuple(sorted(free))))
            self.assertIs(made.free(one, other), True)
        self.assertEqual(self.table.with_pair("b", "a"), self.table)
        self.assertEqual(self.table.with_pair(other="b", one="a"), self.table)

    def test_without_pair(self):
        table = Table(["a", "b", "c"], [("a", "b"), ("b", "c")])
        for one, other in itertools.permutations("abc", 2):
            made = table.without_pair(one, other)
            free = {("a", "b"), ("b", "c")} - {tuple(sorted((one, other)))}
            self.assertIs(type(made), Table)
            self.assertEqual((made.kinds, made.pairs), (("a", "b", "c"), tuple(sorted(free))))
            self.assertIs(made.barred(one, other), True)
        self.assertEqual(table.without_pair("c", "a"), table)
        self.assertEqual(table.without_pair(other="c", one="a"), table)

    def test_pairs_of_equal_names(self):
        for work in (self.table.with_pair, self.table.without_pair):
            self.assert_table_error("pair", 0, work, "a", "a")
            self.assert_table_error("pair", 0, work, "c", "c")

    def test_they_do_not_change_the_table(self):
        self.table.with_pair("a", "c")
        self.table.without_pair("a", "b")
        self.assertEqual(self.table.pairs, (("a", "b"),))
        self.assertIs(self.table.free("a", "c"), False)
        self.assertIs(self.table.free("a", "b"), True)


class TestStops(unittest.TestCase):
    def test_a_kind_stops_itself_and_those_barred_with_it(self):
        table = Table(["c", "b", "a"], [("b", "a")])
        self.assertEqual([table.stops(kind) for kind in "abc"], [("a", "c"), ("b", "c"), ("a", "b", "c")])
        self.assertEqual(Table(["a"]).stops("a"), ("a",))


class TestWithin(unittest.TestCase):
    def test_pairs_decide(self):
        choices = [("a", "b"), ("a", "c"), ("b", "c")]
        sets = [pairs for size in range(4) for pairs in itertools.combinations(choices, size)]
        for one, other in itertools.product(sets, repeat=2):
            result = Table(["a", "b", "c"], one).within(Table(["c", "b", "a"], other))
            with self.subTest(one, other=other):
                self.assertIs(result, set(one) <= set(other))

    def test_kinds_must_be_the_same(self):
        small, large = Table(["a", "b"], [("a", "b")]), Table(["a", "b", "c"], [("a", "b")])
        self.assertIs(small.within(large), False)
        self.assertIs(large.within(small), False)
        self.assertIs(Table(["a", "b"]).within(Table(["a", "c"])), False)
        self.assertIs(small.within(other=small), True)


class TestGroups(Raising):
    def test_barred_kinds_are_together(self):
        table = Table(["a", "b", "c"], [("a", "b")])
        self.assertEqual(table.groups(["a", "b", "c"]), (("a", "b", "c"),))
        self.assertEqual(table.groups(["b", "a"]), (("a",), ("b",)))
        self.assertEqual(table.groups(("c", "a")), (("a", "c"),))
        self.assertEqual(table.groups(kinds=["b"]), (("b",),))

    def test_no_kinds(self):
        self.assertEqual(Table(["a"]).groups([]), ())
        self.assertEqual(Table(["a"]).groups(()), ())

    def test_kinds_may_occur_twice(self):
        table = Table(["a", "b", "c"], [("a", "b")])
        self.assertEqual(table.groups(["b", "a", "b", "a"]), (("a",), ("b",)))
        self.assertEqual(table.groups(["c", "c", "b", "c"]), (("b", "c"),))

    def test_groups_are_in_ascending_order(self):
        kinds = ["a", "b", "c", "d", "e"]
        barred = [("a", "d"), ("b", "e")]
        table = Table(kinds, [pair for pair in itertools.combinations(kinds, 2) if pair not in barred])
        self.assertEqual(table.groups(["e", "d", "c", "b", "a"]), (("a", "d"), ("b", "e"), ("c",)))

    def test_long_chains(self):
        kinds = sorted(TWELVE)
        # Barred in an order that is not that of the alphabet: a-g-b-h-c-i-d-j-e-k-f-l.
        line = [kinds[k // 2 + 6 * (k % 2)] for k in range(12)]
        barred = [tuple(sorted(pair)) for pair in zip(line, line[1:])]
        table = Table(kinds, [pair for pair in itertools.combinations(kinds, 2) if pair not in barred])
        self.assertEqual(table.groups(TWELVE), (tuple(kinds),))
        without_middle = [kind for kind in TWELVE if kind != "i"]
        self.assertEqual(table.groups(without_middle), (("a", "b", "c", "g", "h"), ("d", "e", "f", "j", "k", "l")))

    def test_only_chains_within_the_list_count(self):
        table = Table(["a", "b", "c"], [("a", "b")])
        self.assertEqual(table.groups(["a", "b"]), (("a",), ("b",)))

    def test_against_chains_looked_for_one_by_one(self):
        kinds = ["a", "b", "c", "d"]
        choices = list(itertools.combinations(kinds, 2))
        for many in range(2 ** len(choices)):
            table = Table(kinds, [pair for k, pair in enumerate(choices) if many >> k & 1])
            found = table.groups(kinds[::-1])
            self.assertEqual(sorted(found), list(found))
            self.assertEqual(sorted(kind for group in found for kind in group), kinds)
            for one, other in choices:
                together = any(one in group and other in group for group in found)
                self.assertEqual(together, self.chained(table, kinds, one, other))

    def chained(self, table, kinds, one, other):
        inner = [kind for kind in kinds if kind not in (one, other)]
        for size in range(len(inner) + 1):
            for way in itertools.permutations(inner, size):
                steps = [one, *way, other]
                if all(table.barred(*step) for step in zip(steps, steps[1:])):
                    return True
        return False

    def test_results_are_tuples(self):
        found = Table(["a", "b"]).groups(["b", "a"])
        self.assertIs(type(found), tuple)
        self.assertIs(type(found[0]), tuple)

    def test_unknown_kinds(self):
        table = Table(["a", "b"])
        self.assert_unknown("x", table.groups, ["a", "x", "y"])
        self.assert_unknown("y", table.groups, ("y", "a", "x"))
        self.assert_unknown("", table.groups, ["a", "b", "a", ""])


class TestOthers(unittest.TestCase):
    def test_len(self):
        self.assertEqual(len(Table(["a"])), 1)
        self.assertEqual(len(Table(TWELVE, [("a", "b")])), 12)

    def test_in(self):
        table = Table(["a", "get"])
        for name in ("a", "get"):
            self.assertIs(name in table, True)
        for name in ("", "b", "ge", "A", "a ", "a get", "g", "get\n", "aget", "a" * 50):
            self.assertIs(name in table, False)

    def test_equal(self):
        table = Table(["a", "b", "c"], [("a", "b"), ("c", "a")])
        same = Table(("c", "b", "a"), (("a", "c"), ("b", "a"), ("a", "b")))
        self.assertIs(table == same, True)
        self.assertIs(table != same, False)

    def test_not_equal(self):
        table = Table(["a", "b", "c"], [("a", "b")])
        others = [
            Table(["a", "b", "c"]),
            Table(["a", "b", "c"], [("a", "c")]),
            Table(["a", "b", "c"], [("a", "b"), ("a", "c")]),
            Table(["a", "b"], [("a", "b")]),
            Table(["a", "b", "d"], [("a", "b")]),
        ]
        for other in others:
            self.assertIs(table == other, False)
            self.assertIs(table != other, True)

    def test_equal_to_nothing_else(self):
        table = Table(["a"])
        others = [None, 1, "a", "kinds a", ("a",), ["a"], (("a",), ()), {"a": 1}, str(table), repr(table), Row(table)]
        for other in others:
            self.assertIs(table == other, False)
            self.assertIs(other == table, False)
            self.assertIs(table != other, True)

    def test_repr(self):
        self.assertEqual(repr(Table(["a"])), "Table(1 kinds, 0 pairs)")
        self.assertEqual(repr(Table(["a", "b", "c"], [("a", "b"), ("b", "a")])), "Table(3 kinds, 1 pairs)")
        self.assertEqual(repr(Table(TWELVE, [("a", "b"), ("c", "b")])), "Table(12 kinds, 2 pairs)")


class TestCells(Raising):
    def test_the_example(self):
        cells = {"get": (("x",), ()), "put": ((), ("x",)), "see": (("x", "y"), ())}
        self.assertEqual(Table.of_cells(cells), Table.read("kinds get put see\nfree get see"))

    def test_each_combination_of_two(self):
        ways = {"none": ((), ()), "reads": (("x",), ()), "writes": ((), ("x",)), "both": (("x",), ("x",))}
        for one, other in itertools.product(ways, repeat=2):
            for own in ("y", "x "):
                mine = ([*ways[one][0], own], list(ways[one][1]))
                table = Table.of_cells({"b": mine, "a": ways[other]})
                writes = "x" in ways[one][1] or "x" in ways[other][1]
                both_use = one != "none" and other != "none"
                with self.subTest(one, other=other, own=own):
                    self.assertIs(table.free("a", "b"), not (writes and both_use))

    def test_lists_and_tuples(self):
        cells = {"a": (["x", "y"], ["z"]), "b": ((), ["y", "w"]), "c": (["w"], ()), "d": ([], [])}
        table = Table.of_cells(cells=cells)
        self.assertEqual(table.pairs, (("a", "c"), ("a", "d"), ("b", "d"), ("c", "d")))

    def test_any_strings_are_cells(self):
        table = Table.of_cells({"a": ((), ("",)), "b": (("",), ()), "c": (("A b\n",), ("1",))})
        self.assertEqual(table.pairs, (("a", "c"), ("b", "c")))

    def test_one_kind_and_twelve(self):
        self.assertEqual(Table.of_cells({"a": (("x",), ("x",))}), Table(["a"]))
        table = Table.of_cells({kind: (("x",), (kind,)) for kind in TWELVE})
        self.assertEqual(table, Table(TWELVE, list(itertools.combinations(TWELVE, 2))))

    def test_a_kind_that_writes_what_it_reads_is_not_free_with_itself(self):
        self.assertIs(Table.of_cells({"a": ((), ())}).free("a", "a"), False)

    def test_many_cells(self):
        many = [str(k) for k in range(20000)]
        cells = {"a": (many, []), "b": ([], many), "c": (many, [])}
        self.assertEqual(Table.of_cells(cells).pairs, (("a", "c"),))

    def test_errors(self):
        nothing = ((), ())
        self.assert_table_error("count", -1, Table.of_cells, {})
        self.assert_table_error("count", -1, Table.of_cells, {kind: nothing for kind in [*TWELVE, "m"]})
        self.assert_table_error("count", -1, Table.of_cells, {kind: nothing for kind in [*TWELVE, "A"]})
        self.assert_table_error("name", 0, Table.of_cells, {"b": nothing, "A": nothing})
        self.assert_table_error("name", 2, Table.of_cells, {"a~": nothing, "c": nothing, "a": nothing, "abc": nothing,
                                                            "aaaaaaaa": nothing, "aa": nothing})
        self.assert_table_error("name", 1, Table.of_cells, {"c": nothing, "b1": nothing, "a": nothing})


class TestTexts(Raising):
    def test_str(self):
        self.assertEqual(str(Table(["a"])), "kinds a")
        self.assertEqual(str(Table(["see", "get", "put"], [("see", "get")])), "kinds get put see\nfree get see")
        table = Table(["c", "b", "a"], [("c", "a"), ("b", "a"), ("a", "b")])
        self.assertEqual(str(table), "kinds a b c\nfree a b\nfree a c")
        self.assertEqual(str(Table(TWELVE)), "kinds a b c d e f g h i j k l")

    def test_read(self):
        table = Table.read("kinds get put see\nfree get see")
        self.assertIs(type(table), Table)
        self.assertEqual(table, Table(["get", "put", "see"], [("get", "see")]))
        self.assertEqual((table.free("see", "get"), table.barred("get", "put"), table.barred("get", "get")),
                         (True, True, False))

    def test_any_order_and_pairs_in_either_order(self):
        table = Table.read(text="kinds c a b\nfree c b\nfree b a")
        self.assertEqual(table, Table(["a", "b", "c"], [("a", "b"), ("b", "c")]))

    def test_kinds_with_the_first_words_as_names(self):
        table = Table.read("kinds kinds free\nfree kinds free")
        self.assertEqual(table, Table(["free", "kinds"], [("free", "kinds")]))

    def test_texts_that_were_returned(self):
        for kinds, pairs in ((["a"], []), (TWELVE, itertools.combinations(TWELVE, 2)), ("ba", [("b", "a")])):
            table = Table(list(kinds), list(pairs))
            self.assertEqual(Table.read(str(table)), table)

    def test_wrong_lines_of_kinds(self):
        thirteen = "kinds " + " ".join([*TWELVE, "m"])
        texts = [
            "", "\n", " ", "kind a", "Kinds a", "free a b", "a b", "kinds", "kinds ", "kinds  a", " kinds a",
            "kinds a ", "kinds a  b", "kinds a A", "kinds a abcdefg", "kinds a b a", "kinds a1", "kinds a,b",
            "kindsa", "\nkinds a", thirteen, "kinds -", thirteen + " n",
        ]
        for text in texts:
            with self.subTest(text):
                self.assert_text_error(0, text)
                self.assert_text_error(0, text + "\nfree a a")

    def test_wrong_lines_of_pairs(self):
        lines = [
            "", " ", "a b", "free", "free ", "free a", "free a ", "free a  b", " free a b", "free a b ", "free a b c",
            "free  a b", "free a x", "free x a", "free a a", "free x x", "Free a b", "freea b", "frees a b",
            "kinds a b", "kinds d", "free a B", "free a b^2", "barred a b",
        ]
        for line in lines:
            with self.subTest(line):
                self.assert_text_error(1, "kinds a b c\n" + line)
                self.assert_text_error(2, "kinds c b a\nfree c b\n" + line)
                self.assert_text_error(2, "kinds c b a\nfree c b\n" + line + "\nfree c b")

    def test_pairs_that_occurred_before(self):
        self.assert_text_error(2, "kinds a b\nfree a b\nfree a b")
        self.assert_text_error(2, "kinds a b\nfree a b\nfree b a")
        self.assert_text_error(3, "kinds a b c\nfree b a\nfree b c\nfree b a\n")

    def test_a_newline_at_the_end(self):
        self.assert_text_error(1, "kinds a b\n")
        self.assert_text_error(2, "kinds a b\nfree a b\n")


class TestArgumentsAreLeftAlone(unittest.TestCase):
    def test_later_changes_of_kinds_and_pairs(self):
        kinds, pairs = ["b", "a", "c"], [("b", "a")]
        table = Table(kinds, pairs)
        self.assertEqual((kinds, pairs), (["b", "a", "c"], [("b", "a")]))
        kinds.append("d")
        pairs.append(("a", "c"))
        self.assertEqual(table, Table(["a", "b", "c"], [("a", "b")]))
        self.assertIs(table.free("a", "c"), False)
        pairs.clear()
        self.assertIs(table.free("a", "b"), True)
        self.assertEqual(len(table), 3)

    def test_later_changes_of_cells(self):
        reads, writes = ["x"], ["y"]
        cells = {"b": (reads, writes), "a": (("x",), ())}
        table = Table.of_cells(cells)
        self.assertEqual(cells, {"b": (["x"], ["y"]), "a": (("x",), ())})
        writes.append("x")
        cells["c"] = ((), ())
        self.assertEqual(table, Table(["a", "b"], [("a", "b")]))
        self.assertIs(table.free("a", "b"), True)

    def test_lists_of_kinds_are_not_changed(self):
        kinds = ["c", "a", "c", "b"]
        found = Table(["a", "b", "c"]).groups(kinds)
        self.assertEqual(kinds, ["c", "a", "c", "b"])
        kinds.clear()
        self.assertEqual(found, (("a", "b", "c"),))

    def test_the_same_calls_return_equal_results(self):
        table = Table(["a", "b", "c"], [("a", "b")])
        before = (table.kinds, table.pairs, str(table), repr(table), table.groups(["a", "b"]))
        table.with_pair("b", "c")
        table.without_pair("a", "b")
        table.groups(["c"])
        with self.assertRaises(UnknownKind):
            table.with_pair("a", "x")
        after = (table.kinds, table.pairs, str(table), repr(table), table.groups(["a", "b"]))
        self.assertEqual(before, after)


if __name__ == "__main__":
    unittest.main()
