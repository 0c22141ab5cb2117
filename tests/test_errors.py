"""Point [4]: the error classes."""

import unittest

from pickaisle import errors

WITH_MESSAGE = ["InvalidHouse", "InvalidTask", "InvalidLink", "InvalidPlan", "InvalidPaper", "TooLarge",
                "NothingToUndo", "NothingToRedo"]
WITH_PLACE = ["InvalidPlace", "PickTaken", "UnknownPick", "Unreachable"]
WITH_NAME = ["NameTaken", "UnknownName"]
NAMES = WITH_MESSAGE + WITH_PLACE + WITH_NAME + ["InvalidWalk", "InvalidNotation"]


class ErrorClasses(unittest.TestCase):
    def test_pick_error_stands_under_value_error(self):
        self.assertEqual(errors.PickError.__bases__, (ValueError,))

    def test_each_stands_directly_under_pick_error(self):
        for name in NAMES:
            self.assertEqual(getattr(errors, name).__bases__, (errors.PickError,), name)

    def test_none_stands_under_another_one(self):
        classes = [getattr(errors, name) for name in NAMES]
        for one in classes:
            for other in classes:
                self.assertEqual(issubclass(one, other), one is other)

    def test_made_with_a_message(self):
        for name in WITH_MESSAGE:
            self.assertEqual(str(getattr(errors, name)("what is wrong")), "what is wrong")

    def test_the_attribute_is_what_it_was_made_with(self):
        for name in WITH_PLACE:
            self.assertEqual(getattr(errors, name)((3, -4)).place, (3, -4))
        for name in WITH_NAME:
            self.assertEqual(getattr(errors, name)("north").name, "north")
        self.assertEqual(errors.InvalidWalk(7).number, 7)
        self.assertEqual(errors.InvalidNotation(2).line, 2)


if __name__ == "__main__":
    unittest.main()
