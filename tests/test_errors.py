"""The error classes of the interface."""

import unittest

from watervalves import errors

PLAIN = (
    "InvalidTick",
    "InvalidCount",
    "UnknownValve",
    "TooLong",
    "DifferentValves",
    "Contradiction",
    "QueueFull",
    "InvalidName",
    "UnknownName",
    "TooManyStarts",
)
PLACED = ("InvalidCode", "InvalidOperation")


class ErrorClasses(unittest.TestCase):
    def test_base_class(self):
        self.assertEqual(errors.GardenError.__bases__, (ValueError,))

    def test_all_others_are_direct_subclasses(self):
        for name in PLAIN + PLACED + ("SyntaxFault", "CheckFault"):
            with self.subTest(name):
                self.assertEqual(getattr(errors, name).__bases__, (errors.GardenError,))
                self.assertEqual(getattr(errors, name).__module__, "watervalves.errors")

    def test_no_other_class(self):
        found = [name for name, thing in vars(errors).items() if isinstance(thing, type)]
        expected = PLAIN + PLACED + ("GardenError", "SyntaxFault", "CheckFault")
        self.assertEqual(sorted(found), sorted(expected))

    def test_syntax_fault(self):
        fault = errors.SyntaxFault(3, 4)
        self.assertEqual((fault.line, fault.column), (3, 4))

    def test_check_fault(self):
        fault = errors.CheckFault("rank", 3, 4)
        self.assertEqual((fault.reason, fault.line, fault.column), ("rank", 3, 4))

    def test_places(self):
        for name in PLACED:
            with self.subTest(name):
                self.assertEqual(getattr(errors, name)(7).place, 7)

    def test_messages_tell_the_place(self):
        self.assertIn("12", str(errors.SyntaxFault(0, 12)))
        self.assertIn("rank", str(errors.CheckFault("rank", 0, 12)))
        self.assertIn("12", str(errors.InvalidCode(12)))
        self.assertIn("12", str(errors.InvalidOperation(12)))


if __name__ == "__main__":
    unittest.main()
