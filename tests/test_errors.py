"""Point 1, as far as the errors go: each stands under MachineFault, a ValueError."""

import unittest

from turingwright import errors

NAMES = ("BadMachine", "BadTape", "BadTerm", "BadPaper", "BadSize", "BadText", "BadStore", "NoEnd", "NoSuch")


class Errors(unittest.TestCase):
    def test_all_stand_under_machine_fault(self):
        self.assertTrue(issubclass(errors.MachineFault, ValueError))
        for name in NAMES:
            with self.subTest(name=name):
                self.assertEqual(getattr(errors, name).__bases__, (errors.MachineFault,))

    def test_they_are_told_apart(self):
        for name in NAMES:
            for other in NAMES:
                if name != other:
                    self.assertFalse(issubclass(getattr(errors, name), getattr(errors, other)))

    def test_they_have_a_wording(self):
        with self.assertRaises(errors.MachineFault) as caught:
            raise errors.BadText("no line")
        self.assertEqual(str(caught.exception), "no line")


if __name__ == "__main__":
    unittest.main()
