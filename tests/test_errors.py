"""Point 5: the refusals."""

import unittest

from bellbook import errors

REFUSALS = [
    "BadName", "BadNumber", "NoWeight", "BadSide", "BadKind", "BadPhase", "NoOrder", "Twice",
    "NotNow", "Ring", "Unheld", "NoSeat", "NoWare", "Short", "NoDeed", "NoTape",
]


class ErrorsTest(unittest.TestCase):
    def test_bourse_error_stands_straight_under_value_error(self):
        self.assertEqual(errors.BourseError.__bases__, (ValueError,))

    def test_each_refusal_stands_straight_under_bourse_error(self):
        for name in REFUSALS:
            with self.subTest(name=name):
                self.assertEqual(getattr(errors, name).__bases__, (errors.BourseError,))

    def test_each_refusal_is_a_class_of_its_own(self):
        self.assertEqual(len(REFUSALS), 16)
        self.assertEqual(len({getattr(errors, name) for name in REFUSALS}), 16)
        for name in REFUSALS:
            self.assertEqual(getattr(errors, name).__name__, name)

    def test_each_refusal_is_taken_as_a_bourse_error(self):
        for name in REFUSALS:
            with self.subTest(name=name), self.assertRaises(errors.BourseError):
                raise getattr(errors, name)("words")

    def test_no_refusal_takes_another_one(self):
        for raised in REFUSALS:
            for taken in REFUSALS:
                with self.subTest(raised=raised, taken=taken):
                    self.assertEqual(self.takes(taken, raised), raised == taken)

    def takes(self, taken, raised):
        try:
            raise getattr(errors, raised)("words")
        except getattr(errors, taken):
            return True
        except errors.BourseError:
            return False


if __name__ == "__main__":
    unittest.main()
