"""The refusals: where they stand, and their fields."""

import inspect
import unittest

from letterrack import errors

NAMES = (
    "NoText", "Twice", "NoWord", "NoBoard", "NoLaying", "Taken", "Crooked", "Gap",
    "Apart", "Lacking", "TooFew", "NoDeed", "Over", "NoBack", "NoRow",
)


class TestErrors(unittest.TestCase):
    def test_rack_error_stands_straight_under_value_error(self):
        self.assertEqual(errors.RackError.__bases__, (ValueError,))

    def test_each_stands_straight_under_rack_error(self):
        for name in NAMES:
            with self.subTest(name=name):
                self.assertEqual(getattr(errors, name).__bases__, (errors.RackError,))

    def test_there_are_just_these(self):
        held = [name for name, thing in vars(errors).items() if inspect.isclass(thing)]
        self.assertEqual(sorted(held), sorted(NAMES + ("RackError",)))

    def test_no_word_has_its_word(self):
        self.assertEqual(errors.NoWord("cat").word, "cat")

    def test_taken_and_gap_have_row_and_column(self):
        for refusal in (errors.Taken(3, 5), errors.Gap(3, 5)):
            with self.subTest(refusal=repr(refusal)):
                self.assertEqual((refusal.row, refusal.column), (3, 5))

    def test_lacking_has_its_tile(self):
        self.assertEqual(errors.Lacking("?").tile, "?")

    def test_each_is_taken_as_a_rack_error(self):
        with self.assertRaises(errors.RackError):
            raise errors.NoWord("cat")
        with self.assertRaises(errors.RackError):
            raise errors.NoBack()


if __name__ == "__main__":
    unittest.main()
