"""The examples of the document, and the interface as it lists it."""

import inspect
import unittest

from keepapart import errors, jobs, meeting
from keepapart.jobs import Job, Timetable, shifted
from keepapart.meeting import are_apart, first_meeting, is_meeting, is_reason

FUNCTIONS = {
    jobs.Job: "(period, duration=1, *, start=0, cost=1)",
    jobs.Job.daily: "(duration)",
    jobs.Timetable: "(jobs)",
    jobs.shifted: "(timetable, shifts)",
    jobs.shift_cost: "(timetable, shifts)",
    meeting.first_meeting: "(timetable, first, second)",
    meeting.are_apart: "(timetable, first, second)",
    meeting.is_reason: "(timetable, first, second, pair)",
    meeting.is_meeting: "(timetable, found)",
}

METHODS = {
    jobs.Job: ["period", "duration", "start", "cost", "__eq__", "__rshift__", "__contains__", "__len__", "daily"],
    jobs.Timetable: ["names", "__getitem__", "__contains__", "__len__", "__bool__", "__call__", "__or__",
                     "__rshift__", "__eq__"],
}


class Examples(unittest.TestCase):
    def test_jobs(self):
        table = (Timetable({'mail': Job(4, 2), 'sync': Job(6, start=2)})
                 | Timetable({'log': Job(2, start=1, cost=3)}))
        shown = [table(2), table(5), bool(table), 'sync' in table, 8 in table['sync'], len(table),
                 shifted(table, (0, 1, 1))['sync'] == Job(6, start=3), (table >> 3)['mail'].start]
        self.assertEqual(shown, [['sync'], ['mail', 'log'], False, True, True, 3, True, 3])

    def test_meeting(self):
        table = Timetable({'mail': Job(4, 2), 'sync': Job(6, start=2), 'log': Job(2, start=1)})
        shown = [first_meeting(table, 'mail', 'sync'), first_meeting(table, 'mail', 'log'),
                 are_apart(table, 'sync', 'log'), is_reason(table, 'sync', 'log', (2, 1)),
                 is_meeting(table, ('mail', 'sync', 0, 1, 9))]
        self.assertEqual(shown, [8, 1, True, True, True])


class Interface(unittest.TestCase):
    def test_arguments(self):
        for call, expected in FUNCTIONS.items():
            self.assertEqual(str(inspect.signature(call)), expected, call)

    def test_defined_where_listed(self):
        for place, names in [(errors, ["ApartError", "BadJob", "BadTimetable", "BadName", "BadTime", "BadShifts",
                                       "BadMeeting", "NothingDone", "BadText"]),
                             (jobs, ["Job", "Timetable", "shifted", "shift_cost"]),
                             (meeting, ["first_meeting", "are_apart", "is_reason", "is_meeting"])]:
            for name in names:
                self.assertEqual(getattr(place, name).__module__, place.__name__)

    def test_methods_stand_in_the_class_itself(self):
        for kind, names in METHODS.items():
            for name in names:
                self.assertIn(name, vars(kind))

    def test_kinds_of_methods(self):
        for kind, names in [(Job, ["period", "duration", "start", "cost"]), (Timetable, ["names"])]:
            for name in names:
                self.assertIsInstance(vars(kind)[name], property)
        self.assertIsInstance(vars(Job)["daily"], classmethod)


if __name__ == "__main__":
    unittest.main()
