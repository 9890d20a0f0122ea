"""Tests of [6] and [18]: rows, and of [1], [2] and [3] as far as they concern them."""

import itertools
import unittest

from undoamid.errors import InvalidText, NoDeed, OtherTable, UnknownKind
from undoamid.rows import Row
from undoamid.tables import Table

TABLE = Table(["a", "b", "c"], [("a", "b")])
SAMPLES = [
    [], [("a", 1)], [("b", 0)], [("a", 1), ("a", -1)], [("c", 2), ("a", -3), ("c", 2)],
    [("a", 10 ** 40), ("b", -(10 ** 40)), ("a", 0), ("c", 1)],
]


class Raising(unittest.TestCase):
    def assert_text_error(self, at, text):
        with self.assertRaises(InvalidText) as caught:
            Row.read(TABLE, text)
        self.assertEqual(caught.exception.at, at)

    def assert_unknown(self, name, work, *arguments):
        with self.assertRaises(UnknownKind) as caught:
            work(*arguments)
        self.assertEqual(caught.exception.name, name)

    def assert_no_deed(self, at, work, *arguments):
        with self.assertRaises(NoDeed) as caught:
            work(*arguments)
        self.assertEqual(caught.exception.at, at)


class TestMaking(Raising):
    def test_attributes(self):
        row = Row(TABLE, [("b", 2), ("a", -1), ("b", 0)])
        self.assertEqual(row.table, TABLE)
        self.assertEqual(row.syllables, (("b", 2), ("a", -1), ("b", 0)))
        self.assertIs(type(row.syllables), tuple)
        self.assertIs(type(row.syllables[0]), tuple)

    def test_without_syllables(self):
        for row in (Row(TABLE), Row(TABLE, []), Row(TABLE, ()), Row(table=TABLE)):
            self.assertEqual((row.table, row.syllables), (TABLE, ()))

    def test_arguments_by_name(self):
        row = Row(syllables=(("a", 1),), table=TABLE)
        self.assertEqual((row.table, row.syllables), (TABLE, (("a", 1),)))

    def test_nothing_is_melted_or_moved(self):
        syllables = [("b", 1), ("a", 1), ("a", 1), ("a", -2), ("c", 0), ("c", 0)]
        self.assertEqual(Row(TABLE, syllables).syllables, tuple(syllables))

    def test_great_counts_and_long_rows(self):
        syllables = [("a", 10 ** 40 - 1), ("b", 1 - 10 ** 40), ("c", 10 ** 41)] * 140
        self.assertEqual(Row(TABLE, syllables).syllables, tuple(syllables))

    def test_unknown_kinds(self):
        self.assert_unknown("x", Row, TABLE, [("x", 1)])
        self.assert_unknown("x", Row, TABLE, [("a", 1), ("x", 0), ("y", 1)])
        self.assert_unknown("y", Row, TABLE, (("y", 1), ("x", 1), ("a", 1)))
        self.assert_unknown("", Row, TABLE, [("a", 1), ("", 1)])
        self.assert_unknown("ab", Row, TABLE, [("c", 1), ("ab", 1)])
        self.assert_unknown("A\n", Row, TABLE, [("A\n", 1)])


class TestReadingIt(Raising):
    def test_len_and_bool(self):
        for syllables in SAMPLES:
            row = Row(TABLE, syllables)
            self.assertEqual(len(row), len(syllables))
            self.assertIs(bool(row), len(syllables) > 0)
        self.assertIs(bool(Row(TABLE, [("a", 0)])), True)

    def test_index(self):
        syllables = [("a", 1), ("b", -2), ("a", 0)]
        row = Row(TABLE, syllables)
        self.assertEqual([row[at] for at in range(3)], syllables)
        self.assertEqual(row[0], ("a", 1))

    def test_no_index(self):
        row = Row(TABLE, [("a", 1), ("b", -2), ("a", 0)])
        for at in (-1, -3, -4, 3, 4, 10 ** 30, -(10 ** 30)):
            self.assert_no_deed(at, lambda index: row[index], at)
        for at in (-1, 0, 1):
            self.assert_no_deed(at, lambda index: Row(TABLE)[index], at)

    def test_turns(self):
        self.assertIs(type(Row(TABLE).turns), int)
        self.assertEqual([Row(TABLE, syllables).turns for syllables in SAMPLES], [0, 1, 0, 2, 7, 2 * 10 ** 40 + 1])

    def test_equal(self):
        for one, other in itertools.product(SAMPLES, repeat=2):
            same_table = Table(["c", "b", "a"], [("b", "a")])
            self.assertIs(Row(TABLE, one) == Row(same_table, tuple(other)), one == other)
            self.assertIs(Row(TABLE, one) != Row(same_table, tuple(other)), one != other)

    def test_rows_that_are_alike_only_are_not_equal(self):
        self.assertIs(Row(TABLE, [("a", 1), ("b", 1)]) == Row(TABLE, [("b", 1), ("a", 1)]), False)
        self.assertIs(Row(TABLE, [("a", 0)]) == Row(TABLE), False)
        self.assertIs(Row(TABLE, [("a", 2)]) == Row(TABLE, [("a", 1), ("a", 1)]), False)

    def test_tables_must_be_equal(self):
        for table in (Table(["a", "b", "c"]), Table(["a", "b", "c", "d"], [("a", "b")])):
            self.assertIs(Row(TABLE, [("a", 1)]) == Row(table, [("a", 1)]), False)
            self.assertIs(Row(TABLE) == Row(table), False)

    def test_equal_to_nothing_else(self):
        row = Row(TABLE, [("a", 1)])
        for other in (None, 1, "a", (("a", 1),), [("a", 1)], TABLE, row.syllables, str(row)):
            self.assertIs(row == other, False)
            self.assertIs(other == row, False)
            self.assertIs(row != other, True)
        self.assertIs(Row(TABLE) == (), False)


class TestNewRows(Raising):
    def test_sum(self):
        for one, other in itertools.product(SAMPLES, repeat=2):
            row = Row(TABLE, one) + Row(Table(["b", "a", "c"], [("b", "a")]), other)
            self.assertIs(type(row), Row)
            self.assertEqual((row.table, row.syllables), (TABLE, (*one, *other)))

    def test_sum_over_other_tables(self):
        for table in (Table(["a", "b", "c"]), Table(["a", "b"], [("a", "b")])):
            for one, other in ((Row(TABLE), Row(table)), (Row(table), Row(TABLE, [("a", 1)]))):
                with self.assertRaises(OtherTable):
                    one + other

    def test_undone(self):
        row = ~Row(TABLE, [("a", 1), ("b", -2), ("c", 0), ("a", 10 ** 40)])
        self.assertIs(type(row), Row)
        self.assertEqual(row.table, TABLE)
        self.assertEqual(row.syllables, (("a", -(10 ** 40)), ("c", 0), ("b", 2), ("a", -1)))
        self.assertEqual(~Row(TABLE), Row(TABLE))
        for syllables in SAMPLES:
            self.assertEqual(~~Row(TABLE, syllables), Row(TABLE, syllables))

    def test_under(self):
        other = Table(["a", "b", "d"])
        row = Row(TABLE, [("b", 2), ("a", 0), ("b", -2)])
        made = row.under(other)
        self.assertIs(type(made), Row)
        self.assertEqual((made.table, made.syllables), (other, row.syllables))
        self.assertEqual(Row(TABLE).under(Table(["x"])), Row(Table(["x"])))
        self.assertEqual(row.under(table=TABLE), row)

    def test_under_a_table_without_its_kinds(self):
        row = Row(TABLE, [("a", 1), ("c", 1), ("b", 1), ("c", 1)])
        self.assert_unknown("c", row.under, Table(["a", "x"]))
        self.assert_unknown("b", row.under, Table(["a", "c"]))
        self.assert_unknown("a", row.under, Table(["x"]))

    def test_without(self):
        syllables = [("a", 1), ("b", 2), ("a", 1), ("c", 0), ("a", 1)]
        row = Row(TABLE, syllables)
        for size in range(1, 4):
            for gone in itertools.product(range(5), repeat=size):
                made = row.without(*gone)
                kept = tuple(one for at, one in enumerate(syllables) if at not in gone)
                self.assertEqual((made.table, made.syllables), (TABLE, kept))
        self.assertEqual(row.without(at=1).syllables, (("a", 1), ("a", 1), ("c", 0), ("a", 1)))
        self.assertEqual(row.without(4, 3, 2, 1, 0, 0), Row(TABLE))
        self.assertIs(type(row.without(0)), Row)

    def test_without_what_is_not_there(self):
        row = Row(TABLE, [("a", 1), ("b", 2), ("a", 1)])
        for at in (-1, 3, 4, -3, 10 ** 30):
            self.assert_no_deed(at, row.without, at)
            self.assert_no_deed(at, row.without, 0, at)
            self.assert_no_deed(at, row.without, 2, 2, at, 9)
            self.assert_no_deed(at, row.without, at, -7, 0)
        self.assert_no_deed(0, Row(TABLE).without, 0)

    def test_moved(self):
        syllables = [("a", 1), ("b", 2), ("a", 3), ("c", 4)]
        row = Row(TABLE, syllables)
        for at, to in itertools.product(range(4), repeat=2):
            order = list(syllables)
            order.insert(to, order.pop(at))
            made = row.moved(at, to)
            with self.subTest(at=at, to=to):
                self.assertEqual((made.table, made.syllables), (TABLE, tuple(order)))
        self.assertIs(type(row.moved(0, 1)), Row)

    def test_moved_forward_and_back(self):
        row = Row.read(TABLE, "a b^2 a^3 c^4")
        self.assertEqual(str(row.moved(0, 3)), "b^2 a^3 c^4 a")
        self.assertEqual(str(row.moved(to=2, at=0)), "b^2 a^3 a c^4")
        self.assertEqual(str(row.moved(3, 1)), "a c^4 b^2 a^3")
        self.assertEqual(row.moved(1, 1), row)

    def test_moved_without_an_index(self):
        row = Row(TABLE, [("a", 1), ("b", 2), ("a", 1)])
        for at in (-1, 3, 4, -3, 10 ** 30):
            self.assert_no_deed(at, row.moved, at, 0)
            self.assert_no_deed(at, row.moved, 2, at)
            self.assert_no_deed(at, row.moved, at, -8)
        self.assert_no_deed(0, Row(TABLE).moved, 0, 0)

    def test_the_row_stays_as_it_was(self):
        row = Row(TABLE, [("a", 1), ("b", 2), ("a", 0)])
        row.without(0, 2)
        row.moved(0, 2)
        row.under(Table(["a", "b"]))
        row + row
        ~row
        with self.assertRaises(NoDeed):
            row.without(0, 3)
        self.assertEqual((row.table, row.syllables), (TABLE, (("a", 1), ("b", 2), ("a", 0))))

    def test_the_example_of_the_overview(self):
        row = Row.read(Table(["a", "b", "c"], [("a", "b")]), "a b c b^2")
        self.assertEqual(str(row.without(0)), "b c b^2")


class TestTexts(Raising):
    def test_str(self):
        self.assertEqual(str(Row(TABLE)), "-")
        self.assertEqual(str(Row(TABLE, [("a", 1)])), "a")
        self.assertEqual(str(Row(TABLE, [("a", 0)])), "a^0")
        self.assertEqual(str(Row(TABLE, [("a", -1)])), "a^-1")
        row = Row(TABLE, [("b", 2), ("a", 1), ("c", -10), ("a", 1), ("a", 10 ** 40), ("b", -(10 ** 39))])
        self.assertEqual(str(row), "b^2 a c^-10 a a^1" + "0" * 40 + " b^-1" + "0" * 39)
        self.assertEqual(str(Row(Table(["get", "put"]), [("put", 1), ("get", 12)])), "put get^12")

    def test_counts_of_any_size(self):
        for many in [*range(1, 30), 63, 64, 65, 127, 128, 129, 999, 3999, 4000, 4299, 4300, 4301, 5000, 10000]:
            for digits in ("9" * many, "1" + "0" * (many - 1), ("1203004567" * many)[:many]):
                if digits == "1":
                    continue
                count = 0
                for digit in digits:
                    count = 10 * count + int(digit)
                with self.subTest(many):
                    self.assertEqual(str(Row(TABLE, [("a", count)])), "a^" + digits)
                    self.assertEqual(str(Row(TABLE, [("a", -count), ("b", 1)])), "a^-" + digits + " b")

    def test_read(self):
        row = Row.read(TABLE, "b^2 a c^-10 a^0 a a^-1")
        self.assertIs(type(row), Row)
        self.assertEqual(row.table, TABLE)
        self.assertEqual(row.syllables, (("b", 2), ("a", 1), ("c", -10), ("a", 0), ("a", 1), ("a", -1)))
        self.assertEqual(Row.read(TABLE, "a"), Row(TABLE, [("a", 1)]))
        self.assertEqual(Row.read(TABLE, "a^0"), Row(TABLE, [("a", 0)]))
        self.assertEqual(Row.read(text="-", table=TABLE), Row(TABLE))
        self.assertEqual(Row.read(Table(["get", "getput"]), "getput get^10").syllables, (("getput", 1), ("get", 10)))

    def test_texts_that_were_returned(self):
        for many in (0, 2, -1, 10, 100, -10, 10 ** 20, 10 ** 21 - 1, 1 - 10 ** 21):
            row = Row(TABLE, [("a", many), ("b", 1), ("a", many)])
            self.assertEqual(Row.read(TABLE, str(row)), row)
        row = Row(TABLE, [("a", 10 ** 15), ("c", -7)] * 200)
        self.assertEqual(Row.read(TABLE, str(row)), row)

    def test_counts_of_21_and_22_digits(self):
        for digits in ("1" + "0" * 20, "9" * 21):
            self.assertEqual(Row.read(TABLE, "a^" + digits).syllables, (("a", int(digits)),))
            self.assertEqual(Row.read(TABLE, "c a^-" + digits).syllables, (("c", 1), ("a", -int(digits))))
        for digits in ("1" + "0" * 21, "9" * 22, "9" * 30, "9" * 3900, "0" * 22):
            self.assert_text_error(0, "a^" + digits)
            self.assert_text_error(1, "c a^-" + digits)

    def test_wrong_words(self):
        words = [
            "", "-", "x", "A", "aa", "a^", "a^1", "a^01", "a^00", "a^02", "a^-0", "a^-00", "a^-02", "a^-", "a^--2",
            "a^+2", "a^+0", "a^2-", "a^2^3", "a^^2", "^2", "^", "2", "-2", "a2", "a-2", "-a", "a^b", "a^2b", "a^0x2",
            "a^2_0", "a^1.0", "a^1e3", "x^2", "a\n", "\na", "a^2\n", "a^\n2", "a\nb", "\n", "a,b", "a^ ", "a^(2)",
        ]
        for word in words:
            with self.subTest(word):
                if word != "-":
                    self.assert_text_error(0, word)
                self.assert_text_error(0, word + " a")
                self.assert_text_error(1, "a " + word)
                self.assert_text_error(2, "a^2 b " + word + " x c")

    def test_empty_words_and_the_empty_text(self):
        self.assert_text_error(0, "")
        self.assert_text_error(0, " ")
        self.assert_text_error(0, " a")
        self.assert_text_error(1, "a ")
        self.assert_text_error(1, "a  b")
        self.assert_text_error(2, "a b  ")
        self.assert_text_error(0, " -")
        self.assert_text_error(0, "- ")
        self.assert_text_error(0, "- -")

    def test_the_first_wrong_word_counts(self):
        self.assert_text_error(1, "a x y")
        self.assert_text_error(3, "a b c a^1 x -")


class TestArgumentsAreLeftAlone(unittest.TestCase):
    def test_later_changes_of_syllables(self):
        syllables = [("a", 1), ("b", 2)]
        row = Row(TABLE, syllables)
        self.assertEqual(syllables, [("a", 1), ("b", 2)])
        syllables.append(("c", 1))
        syllables[0] = ("c", 5)
        self.assertEqual((row.syllables, len(row), row[0], row.turns), ((("a", 1), ("b", 2)), 2, ("a", 1), 3))
        self.assertEqual(str(row), "a b^2")

    def test_the_same_calls_return_equal_results(self):
        row = Row(TABLE, [("a", 1), ("b", 2)])
        first = (row.turns, len(row), str(row), ~row, row + row, row.without(0), row.moved(0, 1), bool(row))
        second = (row.turns, len(row), str(row), ~row, row + row, row.without(0), row.moved(0, 1), bool(row))
        self.assertEqual(first, second)


if __name__ == "__main__":
    unittest.main()
