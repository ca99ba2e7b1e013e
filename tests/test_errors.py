"""Point [60] and the interface's section errors.py."""

import copy
import inspect
import pickle
import unittest

from tests.odd import Raises, no_names
from unknowncalls import errors

ATTRIBUTES = {
    "BadName": ("name",),
    "BadNumber": ("name",),
    "BadRule": ("name",),
    "BadFact": ("index",),
    "BadPair": ("index",),
    "NoWorld": (),
    "BadStatement": ("place",),
    "NoSection": ("word",),
    "UnlikeNames": (),
    "Parted": (),
    "Forgotten": ("side", "place", "answers"),
    "BadWorld": ("word",),
    "NoName": ("name",),
    "NoThings": ("things",),
    "NoThing": ("index",),
    "BadResults": ("index",),
    "BadAnswers": ("index",),
    "Impossible": ("index", "side", "at"),
    "NoValue": ("thing",),
    "NoRegister": ("side", "name"),
    "BadSide": ("side",),
    "TooMany": ("total",),
    "NoPlace": ("place",),
    "NoConstant": (),
    "BadTruth": ("truth",),
    "NoQuestion": (),
    "Unanswered": (),
    "IsOver": (),
    "HasDeeds": ("place",),
    "NoTest": ("name",),
    "NoDeed": ("name",),
    "UsedResult": ("place",),
    "HasLeave": ("place",),
    "BadLine": ("index",),
    "BadMachine": ("machine",),
    "BadBlock": ("index",),
    "BadWeight": ("name",),
    "NoNumber": ("n",),
}


class ErrorsTest(unittest.TestCase):
    def test_base(self):
        self.assertEqual(errors.CallError.__bases__, (ValueError,))

    def test_each_class_is_a_direct_subclass(self):
        for name in ATTRIBUTES:
            with self.subTest(name):
                self.assertEqual(getattr(errors, name).__bases__, (errors.CallError,))
                self.assertEqual(getattr(errors, name).__module__, "unknowncalls.errors")

    def test_there_are_no_others(self):
        found = [name for name, _ in inspect.getmembers(errors, inspect.isclass)]
        self.assertEqual(sorted(found), sorted(["CallError", *ATTRIBUTES]))

    def test_attributes_in_order_hold_the_very_objects(self):
        for name, attributes in ATTRIBUTES.items():
            for thing in [None, *no_names()]:
                values = [[thing], thing, {"x": thing}][:len(attributes)]
                with self.subTest(name):
                    error = getattr(errors, name)(*values)
                    for attribute, value in zip(attributes, values):
                        self.assertIs(getattr(error, attribute), value)

    def test_each_attribute_holds_the_thing_itself(self):
        thing = Raises()
        for name, attributes in ATTRIBUTES.items():
            error = getattr(errors, name)(*[thing for _ in attributes])
            self.assertTrue(all(getattr(error, attribute) is thing for attribute in attributes))

    def test_by_the_names_of_the_interface(self):
        for name, attributes in ATTRIBUTES.items():
            error = getattr(errors, name)(**{attribute: attribute * 2 for attribute in attributes})
            for attribute in attributes:
                self.assertEqual(getattr(error, attribute), attribute * 2)

    def test_too_few_values(self):
        for name, attributes in ATTRIBUTES.items():
            if attributes:
                with self.subTest(name), self.assertRaises(TypeError):
                    getattr(errors, name)(*attributes[1:])

    def test_raised_and_caught(self):
        for name, attributes in ATTRIBUTES.items():
            for caught in (ValueError, errors.CallError, getattr(errors, name)):
                with self.subTest(name), self.assertRaises(caught):
                    raise getattr(errors, name)(*attributes)

    def test_copies_tell_the_same(self):
        for name, attributes in ATTRIBUTES.items():
            error = getattr(errors, name)(*attributes)
            for other in (copy.copy(error), pickle.loads(pickle.dumps(error))):
                self.assertEqual([getattr(other, attribute) for attribute in attributes], list(attributes))


if __name__ == "__main__":
    unittest.main()
