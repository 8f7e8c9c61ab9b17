"""Point 3: the refusals and how they stand to one another."""

import unittest

from lapwork import errors
from lapwork.deeds import deed_of
from lapwork.loops import Loop

PLAIN = (
    "NoDeed", "NoMeasure", "BadRows", "BadName", "Twice", "BadCount", "BadNumber", "NoRow", "BadBack", "TooEarly",
    "BadTurns", "BadWidth", "BadArms", "NoArm", "BadDelay", "BadHold", "BadPlan", "Unfit",
)
WITH_FIELD = ("Short", "BadText")


class RefusalClasses(unittest.TestCase):
    def test_the_root_stands_straight_under_value_error(self):
        self.assertEqual(errors.LapError.__bases__, (ValueError,))

    def test_each_refusal_stands_straight_under_lap_error(self):
        for name in PLAIN + WITH_FIELD:
            with self.subTest(name=name):
                self.assertEqual(getattr(errors, name).__bases__, (errors.LapError,))

    def test_no_refusal_stands_under_another_one(self):
        classes = [getattr(errors, name) for name in PLAIN + WITH_FIELD]
        for one in classes:
            for other in classes:
                with self.subTest(one=one.__name__, other=other.__name__):
                    self.assertEqual(issubclass(one, other), one is other)

    def test_there_are_no_other_classes(self):
        there = [name for name, value in vars(errors).items() if isinstance(value, type)]
        self.assertEqual(sorted(there), sorted(PLAIN + WITH_FIELD + ("LapError",)))

    def test_each_plain_refusal_can_be_raised_with_words(self):
        for name in PLAIN:
            with self.subTest(name=name):
                with self.assertRaises(errors.LapError) as caught:
                    raise getattr(errors, name)("some words")
                self.assertEqual(str(caught.exception), "some words")


class Fields(unittest.TestCase):
    def test_short_keeps_the_name_of_the_row(self):
        for name in ("a", "abcdefghijkl"):
            self.assertEqual(errors.Short(name).name, name)

    def test_bad_text_keeps_the_number_of_the_row(self):
        for row in (0, 1, 4000):
            self.assertEqual(errors.BadText(row).row, row)

    def test_fields_are_there_when_caught_as_value_error(self):
        with self.assertRaises(ValueError) as caught:
            raise errors.Short("acc")
        self.assertEqual(caught.exception.name, "acc")
        with self.assertRaises(ValueError) as caught:
            raise errors.BadText(7)
        self.assertEqual(caught.exception.row, 7)

    def test_two_errors_do_not_share_a_field(self):
        first = errors.Short("one")
        errors.Short("two")
        self.assertEqual(first.name, "one")


class RefusalsAreValueErrors(unittest.TestCase):
    def test_a_refusal_is_taken_by_either_root(self):
        for root in (errors.LapError, ValueError):
            with self.assertRaises(root):
                deed_of("none")
            with self.assertRaises(root):
                Loop(1, [])


if __name__ == "__main__":
    unittest.main()
