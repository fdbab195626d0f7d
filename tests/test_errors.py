"""The error classes ([3])."""

import unittest

from selfwritten import errors
from selfwritten.errors import Refusal

ATTRIBUTES = {
    "BadNumber": ("name",),
    "BadWords": ("at",),
    "BadPart": (),
    "BadOp": ("op",),
    "TooMany": ("name",),
    "BadLine": ("number",),
    "BadBook": ("form", "line"),
    "OneCode": ("first", "second", "code"),
    "HalfDone": ("form", "code", "place", "regs", "answers"),
    "BadSource": ("number",),
    "BadMachine": ("name",),
    "BadWorld": ("name",),
    "IsOver": (),
    "BadHouse": ("name", "at"),
    "RuleWrong": ("op", "words", "left"),
    "NoRule": ("op", "form", "code"),
    "BadPair": (),
    "BadRow": ("at",),
    "Unlike": ("regs", "answers"),
    "Dearer": ("leave", "price", "most"),
    "NoRoom": ("slot",),
    "BadPlan": ("at",),
}


class Errors(unittest.TestCase):
    def test_refusal_is_a_direct_subclass_of_exception(self):
        self.assertEqual(Refusal.__bases__, (Exception,))

    def test_each_error_is_a_direct_subclass_of_refusal(self):
        for name in ATTRIBUTES:
            self.assertEqual(getattr(errors, name).__bases__, (Refusal,), name)

    def test_no_other_error_is_there(self):
        found = {name for name in vars(errors) if not name.startswith("_")}
        self.assertEqual(found, set(ATTRIBUTES) | {"Refusal"})

    def test_attributes_in_their_order(self):
        for name, attributes in ATTRIBUTES.items():
            values = [(name, number) for number in range(len(attributes))]
            error = getattr(errors, name)(*values)
            self.assertEqual(list(vars(error).items()), list(zip(attributes, values)), name)

    def test_as_many_arguments_as_attributes(self):
        for name, attributes in ATTRIBUTES.items():
            if attributes:
                with self.assertRaises(TypeError):
                    getattr(errors, name)(*range(len(attributes) + 1))
                with self.assertRaises(TypeError):
                    getattr(errors, name)(*range(len(attributes) - 1))

    def test_raised_and_caught(self):
        with self.assertRaises(Refusal) as held:
            raise errors.HalfDone("odd", (8,), 0, (0,), (0,))
        error = held.exception
        told = (error.form, error.code, error.place, error.regs, error.answers)
        self.assertEqual(told, ("odd", (8,), 0, (0,), (0,)))


if __name__ == "__main__":
    unittest.main()
