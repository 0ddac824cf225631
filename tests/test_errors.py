"""The classes of barebough/errors.py."""

import unittest

from barebough import errors

ATTRIBUTES = {
    "BadTree": ("index",),
    "BadText": ("position",),
    "BadOrder": ("index",),
    "BadCommand": ("word",),
    "BatchRefused": ("index",),
    "OutOfRange": ("value",),
    "UnevenSums": ("first", "second"),
    "WrongLength": ("given", "needed"),
    "NotLive": ("cell",),
    "LastCell": ("cell",),
    "NotTip": ("cell",),
    "NotRegion": ("pieces",),
    "UnevenChoice": ("position",),
    "TooLarge": ("count",),
    "UnknownName": ("name",),
    "NameTaken": ("name",),
    "WrongKind": ("name",),
    "NotKept": (),
    "NotSound": (),
    "PlayOver": (),
    "NoQuestion": (),
    "NothingToUndo": (),
    "NothingToRedo": (),
}


def own_classes():
    return {name: thing for name, thing in vars(errors).items() if isinstance(thing, type)}


class ErrorClasses(unittest.TestCase):
    def test_all_classes_are_there_and_no_other(self):
        self.assertEqual(set(own_classes()), set(ATTRIBUTES) | {"BoughError"})

    def test_base_class_is_a_value_error(self):
        self.assertEqual(errors.BoughError.__bases__, (ValueError,))

    def test_each_class_derives_from_the_base_class_alone(self):
        for name in ATTRIBUTES:
            self.assertEqual(getattr(errors, name).__bases__, (errors.BoughError,), name)

    def test_each_error_has_its_attributes(self):
        for name, attributes in ATTRIBUTES.items():
            values = ["oak"] if attributes == ("name",) else [7, 9][:len(attributes)]
            try:
                raise getattr(errors, name)(*values)
            except ValueError as error:
                self.assertEqual(vars(error), dict(zip(attributes, values)), name)

    def test_attributes_can_be_named_in_the_call(self):
        error = errors.WrongLength(given=3, needed=5)
        self.assertEqual((error.given, error.needed), (3, 5))

    def test_each_class_is_defined_here(self):
        for name, thing in own_classes().items():
            self.assertEqual(thing.__module__, "barebough.errors", name)


if __name__ == "__main__":
    unittest.main()
