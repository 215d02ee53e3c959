"""The interface's underfloor/errors.py."""

import unittest

from underfloor import errors

NAMES = ("NoText", "NoCode", "NoLack", "NoChange", "NoRoom", "NoTask", "NoState", "NoNumber", "NoRow")


class Errors(unittest.TestCase):
    def test_any_refusal_is_a_value_error(self):
        self.assertEqual(errors.UnderError.__bases__, (ValueError,))

    def test_each_stands_under_under_error(self):
        for name in NAMES:
            self.assertEqual(getattr(errors, name).__bases__, (errors.UnderError,), name)

    def test_none_stands_under_another_one(self):
        for name in NAMES:
            for other in NAMES:
                if name != other:
                    self.assertFalse(issubclass(getattr(errors, name), getattr(errors, other)), (name, other))

    def test_no_text_is_made_of_its_line(self):
        for line in (0, 1, 256, 19999):
            self.assertEqual(errors.NoText(line).line, line)

    def test_a_raised_no_text_has_its_line(self):
        with self.assertRaises(errors.UnderError) as caught:
            raise errors.NoText(7)
        self.assertEqual(caught.exception.line, 7)

    def test_the_others_are_made_of_a_text(self):
        for name in NAMES[1:]:
            self.assertEqual(str(getattr(errors, name)("some words")), "some words", name)
        self.assertEqual(str(errors.UnderError("some words")), "some words")


if __name__ == "__main__":
    unittest.main()
