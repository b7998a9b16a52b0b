import unittest

from skylanes import errors


class Errors(unittest.TestCase):
    def test_lane_error_stands_under_value_error(self):
        self.assertEqual(errors.LaneError.__bases__, (ValueError,))

    def test_all_others_stand_straight_under_lane_error(self):
        for kind in (errors.BadPlan, errors.BadRow, errors.Taken,
                     errors.NoName, errors.NoGate, errors.Past):
            self.assertEqual(kind.__bases__, (errors.LaneError,), kind)

    def test_six_refusals_are_unlike(self):
        names = ("BadPlan", "BadRow", "Taken", "NoName", "NoGate", "Past")
        self.assertEqual(len({getattr(errors, name) for name in names}), 6)
        for name in names:
            self.assertEqual(getattr(errors, name).__name__, name)

    def test_bad_plan_is_made_with_its_place(self):
        for place in (0, 1, 12):
            with self.assertRaises(errors.LaneError) as caught:
                raise errors.BadPlan(place)
            self.assertEqual(caught.exception.place, place)

    def test_bad_row_is_made_with_its_row(self):
        for row in (0, 1, 400):
            with self.assertRaises(errors.LaneError) as caught:
                raise errors.BadRow(row)
            self.assertEqual(caught.exception.row, row)

    def test_fields_are_those_of_each_object(self):
        first, second = errors.BadPlan(3), errors.BadPlan(5)
        self.assertEqual((first.place, second.place), (3, 5))
        first, second = errors.BadRow(3), errors.BadRow(5)
        self.assertEqual((first.row, second.row), (3, 5))

    def test_others_are_made_with_words(self):
        for kind in (errors.Taken, errors.NoName, errors.NoGate, errors.Past):
            with self.assertRaises(errors.LaneError) as caught:
                raise kind("some words")
            self.assertIs(caught.exception.__class__, kind)
            self.assertEqual(str(caught.exception), "some words")


if __name__ == "__main__":
    unittest.main()
