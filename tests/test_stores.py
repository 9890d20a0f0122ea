"""Tests of [7] and [29]: stores."""

import itertools

from helping import ABC, FREE, GREAT, KINDS, ONE, OTHER, WIDER, Raising, row_of, version
from reference import NAMES, led, random_pairs, random_syllables, sources
from undoamid.errors import InvalidStore
from undoamid.rows import Row
from undoamid.stores import Store
from undoamid.tables import Table
from undoamid.versions import Version

WHEEL = Store(5, {"a": (1, 2, 3, 4, 0), "b": [1, 2, 0, 4, 3]})


def random_moves(source, kinds, size):
    """Random permutations for some of the kinds."""
    return {kind: source.sample(range(size), size) for kind in kinds if source.randrange(4)}


def first_clash(moves, table, size):
    """What [29] says of clash, with the moves done one after the other."""
    for one, other in table.pairs:
        for standing in range(size):
            there = led(moves, [(one, 1), (other, 1)], standing)
            if there != led(moves, [(other, 1), (one, 1)], standing):
                return (one, other, standing)
    return None


class TestMaking(Raising):
    def test_size_and_moves(self):
        self.assertEqual(WHEEL.size, 5)
        self.assertEqual(WHEEL.moves, {"a": (1, 2, 3, 4, 0), "b": (1, 2, 0, 4, 3)})
        self.assertTrue(all(type(move) is tuple for move in WHEEL.moves.values()))
        self.assertIs(type(WHEEL.moves), dict)
        self.assertEqual(Store(size=1, moves={}).moves, {})

    def test_the_moves_are_new_each_time(self):
        found = WHEEL.moves
        found["a"] = (0, 1, 2, 3, 4)
        found["z"] = ()
        self.assertEqual(WHEEL.moves, {"a": (1, 2, 3, 4, 0), "b": (1, 2, 0, 4, 3)})
        self.assertIsNot(WHEEL.moves, WHEEL.moves)
        self.assertEqual(WHEEL(version("a"), 0), 1)

    def test_later_changes_to_the_arguments_have_no_effect(self):
        move = [1, 0]
        moves = {"a": move}
        store = Store(2, moves)
        move[:] = [0, 1]
        moves["b"] = (1, 0)
        moves["a"] = (0, 1)
        self.assertEqual((store.moves, store(version("a"), 0), store(version("b"), 0)), ({"a": (1, 0)}, 1, 0))
        self.assertEqual((move, sorted(moves)), ([0, 1], ["a", "b"]))

    def test_names(self):
        for name in ("", "A", "a1", "abcdefg", "a b", "a\n", "-", "aB"):
            self.assert_error(InvalidStore, {"word": "name", "kind": name}, Store, 1, {name: (0,)})
            self.assert_error(InvalidStore, {"word": "name", "kind": name}, Store, 1, {"a": [0], name: "x"})
        self.assertEqual(Store(1, {"abcdef": [0]}).moves, {"abcdef": (0,)})

    def test_moves_that_are_no_permutations(self):
        for move in ((), (0,), (0, 1), (0, 1, 2, 3), (0, 0, 1), (1, 2, 3), (0, 1, -1), (0, 2, 2), (0, 1, GREAT)):
            self.assert_error(InvalidStore, {"word": "move", "kind": "a"}, Store, 3, {"a": move})
            self.assert_error(InvalidStore, {"word": "move", "kind": "a"}, Store, 3, {"a": list(move)})
        self.assert_error(InvalidStore, {"word": "move", "kind": "b"}, Store, 1, {"a": (0,), "b": ()})
        self.assert_error(InvalidStore, {"word": "move", "kind": "b"}, Store, moves={"b": (1,)}, size=1)

    def test_the_first_violation_by_ascending_keys(self):
        wrong = {"b": (0, 0), "c": (), "B": (0, 1), "a": (1, 0), "bb": (2, 0)}
        for names, expected in (
            ("b c B a bb", ("name", "B")), ("b c a bb", ("move", "b")),
            ("bb c a", ("move", "bb")), ("c a", ("move", "c")),
        ):
            for order in itertools.permutations(names.split()):
                told = {"word": expected[0], "kind": expected[1]}
                self.assert_error(InvalidStore, told, Store, 2, {name: wrong[name] for name in order})
        # A key that is not a name is told as such also where its value is no permutation.
        self.assert_error(InvalidStore, {"word": "name", "kind": "zz1"}, Store, 2, {"zz1": (), "zzz": ()})

    def test_the_greatest_stores(self):
        size = 2000
        turn = [(k + 1) % size for k in range(size)]
        mirror = [size - 1 - k for k in range(size)]
        store = Store(size, {"a": turn, "b": mirror})
        self.assertEqual(store(version(f"a^{GREAT}"), 7), (7 + GREAT) % size)
        self.assertEqual(store(version(f"b^{GREAT}"), 7), 1992)
        self.assertEqual(store.clash(ABC), ("a", "b", 0))
        self.assert_error(InvalidStore, {"word": "move", "kind": "a"}, Store, size, {"a": turn[:-1] + [1]})
        every = Store(size, {kind: turn for kind in KINDS})
        self.assertIs(every.keeps(FREE), True)


class TestLeading(Raising):
    def test_turn_by_turn(self):
        for source in sources(100, 41):
            kinds = list(NAMES[:source.randint(1, 5)])
            table = Table(kinds)
            size = source.randint(1, 7)
            moves = random_moves(source, kinds, size)
            store = Store(size, moves)
            row = Row(table, random_syllables(source, kinds, 7, 9))
            for standing in range(size):
                self.assertEqual(store(row, standing), led(moves, row.syllables, standing))
                self.assertEqual(store(Version.of(row), standing), store(row, standing))
                self.assertEqual(store(~row, store(row, standing)), standing)

    def test_versions_over_tables_that_the_store_keeps(self):
        store = Store(6, {"a": (1, 2, 0, 3, 4, 5), "b": (0, 1, 2, 4, 5, 3), "c": (3, 4, 5, 0, 1, 2)})
        row = Row(ABC, row_of("b^4 a^-2 b^7 c a b a^-5 c^3 a b^-1"))
        self.assertIs(store.keeps(ABC), True)
        self.assertEqual([store(Version.of(row), k) for k in range(6)], [store(row, k) for k in range(6)])

    def test_kinds_without_a_move_lead_nowhere(self):
        self.assertEqual(WHEEL(row=Row(ABC, [("c", 5), ("a", 1), ("c", -1)]), standing=4), 0)
        self.assertEqual([WHEEL(version("c^3"), k) for k in range(5)], [0, 1, 2, 3, 4])
        self.assertEqual(Store(3, {})(version("a b c"), 2), 2)

    def test_great_counts_and_empty_rows(self):
        self.assertEqual(WHEEL(version(f"a^{GREAT}"), 0), GREAT % 5)
        self.assertEqual(WHEEL(version(f"a^{-GREAT}"), 0), -GREAT % 5)
        self.assertEqual(WHEEL(Row(ABC, [("b", 10 ** 4000 + 1)]), 0), (10 ** 4000 + 1) % 3)
        self.assertEqual([WHEEL(Row(ABC), k) for k in range(5)], [0, 1, 2, 3, 4])
        self.assertEqual([WHEEL(Row(ABC, [("a", 0)]), k) for k in range(5)], [0, 1, 2, 3, 4])
        self.assertEqual(Store(1, {"a": [0]})(version("a^-7"), 0), 0)


class TestKeeping(Raising):
    def test_the_first_clash(self):
        seen = set()
        for source in sources(200, 42):
            kinds = list(NAMES[:source.randint(2, 4)])
            table = Table(kinds, random_pairs(source, kinds, source.choice([3, 8, 10])))
            size = source.randint(1, 4)
            moves = random_moves(source, kinds, size)
            expected = first_clash(moves, table, size)
            store = Store(size, moves)
            self.assertEqual(store.clash(table), expected)
            self.assertEqual(store.clash(table=table), expected)
            self.assertIs(store.keeps(table=table), expected is None)
            seen.add(expected is None)
        self.assertEqual(seen, {True, False})

    def test_pairs_in_the_order_of_the_table(self):
        turn, swap = (1, 2, 0), (0, 2, 1)
        store = Store(3, {"d": swap, "a": turn, "c": turn, "b": swap})
        self.assertEqual(store.clash(FREE), ("a", "b", 0))
        self.assertEqual(store.clash(Table(list("abcd"), [("d", "c"), ("c", "b")])), ("b", "c", 0))
        self.assertEqual(store.clash(Table(list("abcd"), [("d", "c"), ("b", "d"), ("a", "c")])), ("c", "d", 0))
        self.assertIsNone(store.clash(Table(list("abcd"), [("b", "d"), ("a", "c")])))
        self.assertIsNone(store.clash(Table(list("abcd"))))

    def test_the_least_standing_that_shows_it(self):
        store = Store(6, {"a": (0, 1, 2, 4, 5, 3), "b": (1, 0, 2, 4, 3, 5)})
        self.assertEqual(store.clash(ABC), ("a", "b", 3))
        self.assertIs(store.keeps(ABC), False)
        self.assertIs(store.keeps(OTHER), True)

    def test_kinds_that_the_table_lacks_do_not_matter(self):
        store = Store(3, {"a": (1, 2, 0), "z": (0, 2, 1), "y": (1, 0, 2)})
        for table in (ABC, ONE, WIDER, FREE):
            self.assertIs(store.keeps(table), True)
        self.assertEqual(store.clash(Table(["y", "z"], [("z", "y")])), ("y", "z", 0))


class TestEquality(Raising):
    def test_equal_sizes_and_moves(self):
        same = Store(5, {"b": (1, 2, 0, 4, 3), "a": [1, 2, 3, 4, 0]})
        self.assertTrue(WHEEL == same)
        self.assertFalse(WHEEL != same)
        for other in (
            Store(5, {"a": (1, 2, 3, 4, 0)}), Store(5, {"a": (1, 2, 3, 4, 0), "b": (0, 1, 2, 3, 4)}), Store(5, {}),
            Store(5, {"a": (1, 2, 3, 4, 0), "c": (1, 2, 0, 4, 3)}), 5, None, WHEEL.moves, (5, WHEEL.moves), ABC, "",
        ):
            self.assertFalse(WHEEL == other)
            self.assertTrue(WHEEL != other)
        self.assertFalse(Store(1, {}) == Store(2, {}))
        # A kind without a move is another thing than a kind whose move does nothing.
        self.assertFalse(Store(1, {}) == Store(1, {"a": (0,)}))

    def test_calls_change_nothing(self):
        store = Store(3, {"a": (1, 2, 0)})
        before = [store(version("a b a"), 0), store.clash(ABC), store.moves]
        store(version("a^-9 c"), 2)
        self.assertEqual([store(version("a b a"), 0), store.clash(ABC), store.moves], before)
        self.assertEqual(store, Store(3, {"a": (1, 2, 0)}))
