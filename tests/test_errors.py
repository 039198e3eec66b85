import unittest

from account import ERRORS
from keepapart import errors


class Classes(unittest.TestCase):
    def test_apart_error_is_a_value_error(self):
        self.assertEqual(errors.ApartError.__bases__, (ValueError,))

    def test_all_others_are_direct_subclasses(self):
        for kind in ERRORS:
            self.assertEqual(kind.__bases__, (errors.ApartError,), kind)

    def test_none_is_another_one(self):
        for kind in ERRORS:
            for other in ERRORS:
                self.assertEqual(issubclass(kind, other), kind is other)

    def test_names_and_places(self):
        names = ["BadJob", "BadTimetable", "BadName", "BadTime", "BadShifts", "BadMeeting", "NothingDone", "BadText"]
        self.assertEqual([kind.__name__ for kind in ERRORS], names)
        self.assertEqual({kind.__module__ for kind in [errors.ApartError, *ERRORS]}, {"keepapart.errors"})


class Attributes(unittest.TestCase):
    def test_part(self):
        self.assertIsNone(errors.BadTimetable().part)
        self.assertIsNone(errors.BadTimetable(None).part)
        self.assertEqual(errors.BadTimetable("mail").part, "mail")
        self.assertEqual(errors.BadTimetable(part=7).part, 7)

    def test_row(self):
        self.assertEqual(errors.BadText().row, 0)
        self.assertEqual(errors.BadText(0).row, 0)
        self.assertEqual(errors.BadText(row=3).row, 3)

    def test_set_on_each_object_and_not_on_the_class(self):
        self.assertIn("part", vars(errors.BadTimetable("mail")))
        self.assertIn("row", vars(errors.BadText(1)))
        self.assertFalse(hasattr(errors.BadTimetable, "part"))
        self.assertFalse(hasattr(errors.BadText, "row"))

    def test_a_message_is_there(self):
        self.assertTrue(str(errors.BadTimetable("mail")))
        self.assertTrue(str(errors.BadText(1)))


if __name__ == "__main__":
    unittest.main()
