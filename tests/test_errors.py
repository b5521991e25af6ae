"""Errors: point [5]."""

import unittest

from hookrow import errors

CLASSES = {
    "InvalidHook": ("word", "name"),
    "InvalidBody": ("word", "path"),
    "InvalidText": ("at",),
    "InvalidPlugin": ("word", "hook"),
    "InvalidCalls": ("name",),
    "BadCall": ("word", "name"),
    "Barred": ("hook", "names"),
    "NoOrder": ("at",),
    "CallFailed": ("word", "plugin"),
    "Taken": ("name",),
    "NoHook": ("name",),
    "NoPlugin": ("name",),
    "NoKept": ("index",),
}
KEY_ERRORS = ("NoHook", "NoPlugin", "NoKept")
THINGS = ["red", 0, -7, None, True, (), (1, (2,)), ["a", ["b"]], {"a": 1}, {3}, object(), 1.5, ValueError("x")]


def error_class(name):
    return getattr(errors, name)


def base_of(name):
    return KeyError if name in KEY_ERRORS else errors.HookError


class ErrorsTest(unittest.TestCase):
    def test_bases(self):
        self.assertEqual(errors.HookError.__bases__, (ValueError,))
        for name in CLASSES:
            self.assertEqual(error_class(name).__bases__, (base_of(name),), name)

    def test_every_class_of_the_module_is_known_here(self):
        found = [name for name, thing in vars(errors).items() if isinstance(thing, type)]
        self.assertEqual(sorted(found), sorted(["HookError", *CLASSES]))

    def test_attributes_by_position_and_by_name(self):
        for name, attributes in CLASSES.items():
            for at in range(len(THINGS)):
                told = [THINGS[(at + step) % len(THINGS)] for step in range(len(attributes))]
                by_position = error_class(name)(*told)
                by_name = error_class(name)(**dict(zip(attributes, told)))
                for attribute, thing in zip(attributes, told):
                    self.assertIs(getattr(by_position, attribute), thing)
                    self.assertIs(getattr(by_name, attribute), thing)

    def test_mixed_order_of_names(self):
        error = errors.InvalidHook(name="size", word="sort")
        self.assertEqual((error.word, error.name), ("sort", "size"))
        error = errors.Barred("shade", names=("a", "b"))
        self.assertEqual((error.hook, error.names), ("shade", ("a", "b")))

    def test_wrong_numbers_of_arguments(self):
        for name, attributes in CLASSES.items():
            with self.assertRaises(TypeError):
                error_class(name)()
            with self.assertRaises(TypeError):
                error_class(name)(*range(len(attributes) + 1))
            with self.assertRaises(TypeError):
                error_class(name)(*range(len(attributes)), other=1)

    def test_caught_as_itself_and_as_its_base_and_as_no_other(self):
        for name, attributes in CLASSES.items():
            error = error_class(name)(*range(len(attributes)))
            for other in CLASSES:
                self.assertEqual(isinstance(error, error_class(other)), name == other, (name, other))
            self.assertEqual(isinstance(error, errors.HookError), name not in KEY_ERRORS)
            self.assertEqual(isinstance(error, ValueError), name not in KEY_ERRORS)
            self.assertEqual(isinstance(error, KeyError), name in KEY_ERRORS)
            for kind in (error_class(name), base_of(name)):
                try:
                    raise error
                except kind as caught:
                    self.assertIs(caught, error)

    def test_base_can_be_raised(self):
        with self.assertRaises(ValueError):
            raise errors.HookError("told")


if __name__ == "__main__":
    unittest.main()
