"""The examples of the document, and the interface as it lists it."""

import inspect
import unittest

from account import refusal
from keepapart import desks, errors, jobs, meeting, spreading, stretches, texts
from keepapart.desks import Desk
from keepapart.jobs import Job, Timetable, shifted
from keepapart.meeting import are_apart, first_meeting, is_meeting, is_reason
from keepapart.spreading import cheapest, free_shifts
from keepapart.texts import read_timetable, timetable_text

FUNCTIONS = {
    jobs.Job: "(period, duration=1, *, start=0, cost=1)",
    jobs.Job.daily: "(duration)",
    jobs.Timetable: "(jobs)",
    jobs.shifted: "(timetable, shifts)",
    jobs.shift_cost: "(timetable, shifts)",
    meeting.first_meeting: "(timetable, first, second)",
    meeting.are_apart: "(timetable, first, second)",
    meeting.is_reason: "(timetable, first, second, pair)",
    meeting.is_meeting: "(timetable, found)",
    spreading.cheapest: "(timetable)",
    spreading.Spread: "(shifts, reasons, meetings)",
    spreading.NoSpread: "(meetings)",
    spreading.Spread.shows: "(self, timetable)",
    spreading.NoSpread.shows: "(self, timetable)",
    spreading.free_shifts: "(timetable)",
    stretches.cycle: "(timetable)",
    stretches.longest: "(timetable)",
    stretches.stretches: "(timetable)",
    stretches.peak: "(timetable)",
    stretches.room: "(timetable, period, duration)",
    desks.Desk: "(timetable)",
    desks.Desk.move: "(self, name, number)",
    desks.Desk.undo: "(self)",
    desks.Desk.cures: "(self)",
    texts.timetable_text: "(timetable)",
    texts.read_timetable: "(text)",
}

METHODS = {
    jobs.Job: ["period", "duration", "start", "cost", "__eq__", "__rshift__", "__contains__", "__len__", "daily"],
    jobs.Timetable: ["names", "__getitem__", "__contains__", "__len__", "__bool__", "__call__", "__or__",
                     "__rshift__", "__eq__"],
    spreading.Spread: ["__init__", "__eq__", "shows"],
    spreading.NoSpread: ["__init__", "__eq__", "shows"],
    desks.Desk: ["now", "table", "spent", "move", "undo", "cures", "__contains__", "__getitem__", "__len__",
                 "__bool__"],
}


class Examples(unittest.TestCase):
    def test_jobs(self):
        table = (Timetable({'mail': Job(4, 2), 'sync': Job(6, start=2)})
                 | Timetable({'log': Job(2, start=1, cost=3)}))
        shown = [table(2), table(5), bool(table), 'sync' in table, 8 in table['sync'], len(table),
                 shifted(table, (0, 1, 1))['sync'] == Job(6, start=3), (table >> 3)['mail'].start]
        self.assertEqual(shown, [['sync'], ['mail', 'log'], False, True, True, 3, True, 3])

    def test_meeting(self):
        table = Timetable({'mail': Job(4, 2), 'sync': Job(6, start=2), 'log': Job(2, start=1)})
        shown = [first_meeting(table, 'mail', 'sync'), first_meeting(table, 'mail', 'log'),
                 are_apart(table, 'sync', 'log'), is_reason(table, 'sync', 'log', (2, 1)),
                 is_meeting(table, ('mail', 'sync', 0, 1, 9))]
        self.assertEqual(shown, [8, 1, True, True, True])

    def test_spreading(self):
        table = Timetable({'mail': Job(4), 'sync': Job(6, cost=5)})
        found = cheapest(table)
        shown = [found.shifts, found.shows(table), len(free_shifts(table)), free_shifts(table)[0]]
        self.assertEqual(shown, [(1, 0), True, 12, (0, 1)])

    def test_stretches(self):
        table = Timetable({'mail': Job(4, 2), 'sync': Job(6, start=2)})
        shown = [stretches.cycle(table), stretches.longest(table), list(stretches.stretches(table))[-1],
                 stretches.peak(table), stretches.room(table, 2, 1)]
        self.assertEqual(shown, [12, (6, 2), (10, 2), (2, 8), [('mail', 0), ('mail', 1)]])

    def test_desks(self):
        desk = Desk(Timetable({'mail': Job(4), 'sync': Job(6, cost=5)}))
        shown = [bool(desk), desk.move('sync', 2), desk['sync'], desk.spent, desk.move('mail', 3), len(desk),
                 list(desk.cures())[:2], desk.undo(), desk.now]
        self.assertEqual(shown, [False, False, 2, 10, True, 2, [('mail', 2), ('sync', 2)], 'mail', (0, 2)])

    def test_texts(self):
        text = 'mail 4 2 0 1\nsync 12 1 11 9\n'
        shown = [timetable_text(read_timetable(text)) == text,
                 read_timetable(text)['sync'] == Job(12, start=11, cost=9)]
        self.assertEqual(shown, [True, True])
        error = refusal(self, errors.BadText, read_timetable, 'mail 4 2 0 1\nsync 4 5 0 1\n')
        self.assertEqual(error.row, 1)


class Interface(unittest.TestCase):
    def test_arguments(self):
        for call, expected in FUNCTIONS.items():
            self.assertEqual(str(inspect.signature(call)), expected, call)

    def test_defined_where_listed(self):
        for place, names in [(errors, ["ApartError", "BadJob", "BadTimetable", "BadName", "BadTime", "BadShifts",
                                       "BadMeeting", "NothingDone", "BadText"]),
                             (jobs, ["Job", "Timetable", "shifted", "shift_cost"]),
                             (meeting, ["first_meeting", "are_apart", "is_reason", "is_meeting"]),
                             (spreading, ["cheapest", "Spread", "NoSpread", "free_shifts"]),
                             (stretches, ["cycle", "longest", "stretches", "peak", "room"]),
                             (desks, ["Desk"]),
                             (texts, ["timetable_text", "read_timetable"])]:
            for name in names:
                self.assertEqual(getattr(place, name).__module__, place.__name__)

    def test_methods_stand_in_the_class_itself(self):
        for kind, names in METHODS.items():
            for name in names:
                self.assertIn(name, vars(kind))

    def test_kinds_of_methods(self):
        for kind, names in [(Job, ["period", "duration", "start", "cost"]), (Timetable, ["names"]),
                            (Desk, ["now", "table", "spent"])]:
            for name in names:
                self.assertIsInstance(vars(kind)[name], property)
        self.assertIsInstance(vars(Job)["daily"], classmethod)


if __name__ == "__main__":
    unittest.main()
