"""Point [5]: the classes of errors and their fields."""

import unittest

from openloops import errors

WITH_VALUE = ["InvalidNumber", "InvalidWord", "InvalidForm", "InvalidPoint", "InvalidPieces", "InvalidList",
              "InvalidLines", "InvalidPlace", "InvalidAmount", "InvalidStep", "InvalidWay", "InvalidDeed",
              "InvalidFlag", "InvalidText", "InvalidGrid", "InvalidSet", "InvalidTable", "InvalidAutomaton",
              "InvalidMaker", "InvalidProgram", "InvalidWorkshop", "InvalidPiece", "Unlike", "TooLong", "TooMany",
              "UnknownPart"]
WITHOUT = ["NothingToUndo", "NothingToRedo"]


class Errors(unittest.TestCase):
    def test_all_are_derived_directly(self):
        self.assertEqual(errors.LoopError.__bases__, (ValueError,))
        for name in WITH_VALUE + ["OpenInOpen"] + WITHOUT:
            self.assertEqual(getattr(errors, name).__bases__, (errors.LoopError,), name)
            self.assertEqual(getattr(errors, name).__module__, "openloops.errors")

    def test_value(self):
        for name in WITH_VALUE:
            kind, thing = getattr(errors, name), [1, ("a", None)]
            self.assertIs(kind(thing).value, thing, name)
            self.assertIs(kind(value=thing).value, thing, name)
            self.assertIsNone(kind().value, name)
            self.assertRaises(TypeError, kind, 1, 2)
            self.assertRaises(TypeError, lambda: kind(place=1))

    def test_place(self):
        self.assertEqual(errors.OpenInOpen(("main", (0,))).place, ("main", (0,)))
        self.assertEqual(errors.OpenInOpen(place=("main", (0,))).place, ("main", (0,)))
        self.assertIsNone(errors.OpenInOpen().place)
        self.assertFalse(hasattr(errors.OpenInOpen(), "value"))

    def test_no_field(self):
        for name in WITHOUT:
            self.assertFalse(hasattr(getattr(errors, name)(), "value"), name)

    def test_caught_as_loop_error_and_as_value_error(self):
        for kind in [errors.LoopError, ValueError]:
            with self.assertRaises(kind):
                raise errors.TooLong(2001)


if __name__ == "__main__":
    unittest.main()
