"""Tests of [14]: the errors, their bases and their attributes."""

import unittest

from undoamid import errors

# Each direct subclass of UndoError, with the names of its arguments.
UNDO_ERRORS = {
    "InvalidTable": ("word", "at"),
    "InvalidText": ("at",),
    "InvalidStore": ("word", "kind"),
    "OtherTable": (),
    "NoDeed": ("at",),
    "NotShort": ("at",),
    "TooMany": ("count",),
    "Barred": ("one", "other"),
    "Clash": ("version",),
    "Taken": ("name",),
    "InvalidCommand": (),
}
KEY_ERRORS = {"UnknownKind": ("name",), "UnknownBranch": ("name",)}
ALL_ERRORS = {**UNDO_ERRORS, **KEY_ERRORS}

ANY_VALUES = [
    None, True, False, 0, -1, 10 ** 40, "", "two words\n", "{}", (), ("a", 1), [], [("a", [None])],
    ((((((((1,),),),),),),),), [1, ["a", (2, False)]],
]


class TestBases(unittest.TestCase):
    def test_the_base_class(self):
        self.assertEqual(errors.UndoError.__bases__, (ValueError,))

    def test_undo_errors_derive_directly_from_it(self):
        for name in UNDO_ERRORS:
            with self.subTest(name):
                self.assertEqual(getattr(errors, name).__bases__, (errors.UndoError,))

    def test_unknown_names_derive_directly_from_key_error(self):
        for name in KEY_ERRORS:
            with self.subTest(name):
                self.assertEqual(getattr(errors, name).__bases__, (KeyError,))

    def test_there_are_eleven_and_no_others(self):
        self.assertEqual(len(UNDO_ERRORS), 11)
        direct = {one.__name__ for one in errors.UndoError.__subclasses__()}
        self.assertEqual(direct, set(UNDO_ERRORS))

    def test_none_is_caught_as_another_one(self):
        for name, arguments in ALL_ERRORS.items():
            made = getattr(errors, name)(*arguments)
            for other in ALL_ERRORS:
                with self.subTest(name, other=other):
                    self.assertEqual(isinstance(made, getattr(errors, other)), name == other)

    def test_what_catches_them(self):
        for name, arguments in ALL_ERRORS.items():
            made = getattr(errors, name)(*arguments)
            with self.subTest(name):
                self.assertEqual(isinstance(made, errors.UndoError), name in UNDO_ERRORS)
                self.assertEqual(isinstance(made, ValueError), name in UNDO_ERRORS)
                self.assertEqual(isinstance(made, KeyError), name in KEY_ERRORS)

    def test_they_are_defined_in_the_module(self):
        for name in ["UndoError", *ALL_ERRORS]:
            self.assertEqual(getattr(errors, name).__module__, "undoamid.errors")


class TestAttributes(unittest.TestCase):
    def values_for(self, arguments, shift):
        return [ANY_VALUES[(shift + 5 * k) % len(ANY_VALUES)] for k in range(len(arguments))]

    def test_arguments_by_position_are_kept(self):
        for name, arguments in ALL_ERRORS.items():
            for shift in range(len(ANY_VALUES)):
                values = self.values_for(arguments, shift)
                made = getattr(errors, name)(*values)
                for argument, value in zip(arguments, values):
                    with self.subTest(name, argument=argument, value=value):
                        self.assertIs(getattr(made, argument), value)

    def test_arguments_by_name_are_kept(self):
        for name, arguments in ALL_ERRORS.items():
            values = self.values_for(arguments, 9)
            made = getattr(errors, name)(**dict(zip(arguments, values)))
            for argument, value in zip(arguments, values):
                with self.subTest(name, argument=argument):
                    self.assertIs(getattr(made, argument), value)

    def test_arguments_are_not_copied(self):
        for name, arguments in ALL_ERRORS.items():
            values = [[k] for k in range(len(arguments))]
            made = getattr(errors, name)(*values)
            for argument, value in zip(arguments, values):
                value.append("later")
                with self.subTest(name, argument=argument):
                    self.assertIs(getattr(made, argument), value)

    def test_arguments_must_be_there(self):
        for name, arguments in ALL_ERRORS.items():
            if arguments:
                with self.subTest(name), self.assertRaises(TypeError):
                    getattr(errors, name)()

    def test_they_are_kept_when_raised_and_caught(self):
        value = ["a"]
        with self.assertRaises(errors.UnknownKind) as caught:
            raise errors.UnknownKind(value)
        self.assertIs(caught.exception.name, value)
        with self.assertRaises(errors.Barred) as caught:
            raise errors.Barred(("a", 2), value)
        self.assertEqual(caught.exception.one, ("a", 2))
        self.assertIs(caught.exception.other, value)

    def test_objects_keep_their_own_arguments(self):
        one, other = errors.Taken("a"), errors.Taken("b")
        self.assertEqual((one.name, other.name), ("a", "b"))


if __name__ == "__main__":
    unittest.main()
