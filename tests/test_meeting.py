import unittest
from math import gcd, lcm

from account import NOT_INTEGERS, NOT_NAMES, NOT_TABLES, all_jobs, refusal, times_of
from keepapart.errors import BadMeeting, BadName, BadTimetable
from keepapart.jobs import Job, Timetable, shifted
from keepapart.meeting import are_apart, first_meeting, is_meeting, is_reason

TABLE = Timetable({"mail": Job(4, 2), "sync": Job(6, start=2), "log": Job(2, start=1)})


def table_of(one, other):
    first, second = [Job(period, duration, start=start) for period, duration, start in (one, other)]
    return Timetable({"one": first, "other": second})


def some_pairs():
    """All pairs of jobs with short periods, and every so many-th pair of all jobs."""
    short = all_jobs(4)
    everything = [(one, other) for one in all_jobs(12) for other in all_jobs(12)]
    return [(one, other) for one in short for other in short] + everything[::97]


def meeting_times(one, other):
    """The times of the common cycle at which both run."""
    cycle = lcm(one[0], other[0])
    return times_of(*one, cycle) & times_of(*other, cycle)


def reasons_of(one, other):
    """All reasons for two jobs, found among many pairs."""
    found = []
    for divisor in range(1, 13):
        if one[0] % divisor == 0 and other[0] % divisor == 0:
            for distance in range(one[1], divisor - other[1] + 1):
                # The distance is that of the starts if the difference is a multiple of the divisor.
                if (one[2] + distance - other[2]) % divisor == 0:
                    found.append((divisor, distance))
    return found


class Meeting(unittest.TestCase):
    def test_first_times_over_the_common_cycle(self):
        for one, other in some_pairs():
            table = table_of(one, other)
            expected = min(meeting_times(one, other), default=None)
            self.assertEqual(first_meeting(table, "one", "other"), expected, (one, other))
            self.assertEqual(first_meeting(table, "other", "one"), expected, (one, other))

    def test_late_meetings(self):
        self.assertEqual(first_meeting(table_of((11, 1, 10), (12, 1, 11)), "one", "other"), 131)
        self.assertEqual(first_meeting(table_of((1, 1, 0), (12, 1, 11)), "one", "other"), 11)
        self.assertEqual(first_meeting(table_of((12, 12, 7), (12, 12, 3)), "one", "other"), 0)
        self.assertIsNone(first_meeting(table_of((12, 6, 0), (12, 6, 6)), "one", "other"))

    def test_other_jobs_do_not_matter(self):
        self.assertEqual(first_meeting(TABLE, "mail", "sync"), 8)
        self.assertEqual(first_meeting(TABLE, "mail", "log"), 1)
        self.assertIsNone(first_meeting(TABLE, "sync", "log"))


class Apart(unittest.TestCase):
    def test_over_the_common_cycle(self):
        for one, other in some_pairs():
            table = table_of(one, other)
            expected = not meeting_times(one, other)
            self.assertIs(are_apart(table, "one", "other"), expected, (one, other))
            self.assertIs(are_apart(table, "other", "one"), expected, (one, other))

    def test_just_if_there_is_a_reason(self):
        for one, other in some_pairs():
            table = table_of(one, other)
            found = [(divisor, distance) for divisor in range(1, 13) for distance in range(12)
                     if is_reason(table, "one", "other", (divisor, distance))]
            self.assertEqual(found, reasons_of(one, other), (one, other))
            self.assertIs(are_apart(table, "one", "other"), found != [])
            if found:
                self.assertEqual(found[-1][0], gcd(one[0], other[0]))


class Reasons(unittest.TestCase):
    table = Timetable({"mail": Job(12, 2, start=1), "sync": Job(6, 2, start=4), "log": Job(12, start=9)})

    def test_all_divisors(self):
        self.assertIs(is_reason(self.table, "mail", "sync", (6, 3)), True)
        self.assertIs(is_reason(self.table, "sync", "mail", (6, 3)), True)
        self.assertIs(is_reason(self.table, "mail", "log", (12, 8)), True)
        self.assertIs(is_reason(self.table, "log", "mail", (12, 4)), True)
        self.assertIs(is_reason(self.table, "log", "mail", (6, 4)), True)
        self.assertIs(is_reason(self.table, "log", "mail", (3, 1)), True)
        self.assertIs(is_reason(self.table, "mail", "log", (3, 2)), True)

    def test_order_of_the_jobs(self):
        self.assertIs(is_reason(self.table, "mail", "log", (12, 4)), False)
        self.assertIs(is_reason(self.table, "log", "mail", (12, 8)), False)

    def test_changed_pairs(self):
        for divisor, distance in [(6, 2), (6, 4), (6, 9), (6, -3), (6, 0), (12, 3), (4, 3), (3, 0), (3, 3), (2, 1),
                                  (1, 0), (5, 3), (7, 3)]:
            self.assertIs(is_reason(self.table, "mail", "sync", (divisor, distance)), False, (divisor, distance))

    def test_divisors_of_zero_and_below(self):
        for divisor in [0, -1, -2, -3, -6, -12]:
            for distance in range(-12, 13):
                self.assertIs(is_reason(self.table, "mail", "sync", (divisor, distance)), False)

    def test_divisors_of_one_period_only(self):
        table = Timetable({"mail": Job(12), "sync": Job(6, start=3)})
        self.assertIs(is_reason(table, "mail", "sync", (6, 3)), True)
        self.assertIs(is_reason(table, "mail", "sync", (12, 3)), False)
        self.assertIs(is_reason(table, "sync", "mail", (12, 9)), False)
        self.assertIs(is_reason(table, "mail", "sync", (4, 3)), False)
        self.assertIs(is_reason(table, "sync", "mail", (4, 1)), False)

    def test_divisors_of_no_period_or_far_away(self):
        for divisor in [5, 7, 24, 10 ** 30]:
            self.assertIs(is_reason(self.table, "mail", "sync", (divisor, 3)), False)
        self.assertIs(is_reason(self.table, "mail", "sync", (6, 3 + 6 * 10 ** 30)), False)

    def test_durations_that_just_fit(self):
        for first in range(1, 12):
            for second in range(1, 12):
                table = Timetable({"a": Job(12, first), "b": Job(12, second, start=5)})
                fits = first <= 5 and second <= 7
                self.assertIs(is_reason(table, "a", "b", (12, 5)), fits, (first, second))


class Names(unittest.TestCase):
    calls = [first_meeting, are_apart, lambda table, first, second: is_reason(table, first, second, (2, 1))]

    def test_what_is_no_name_of_a_job(self):
        for call in self.calls:
            for value in NOT_NAMES + ["mails", "back"]:
                refusal(self, BadName, call, TABLE, value, "sync")
                refusal(self, BadName, call, TABLE, "sync", value)
                refusal(self, BadName, call, TABLE, value, value)

    def test_one_job_twice(self):
        for call in self.calls:
            for name in TABLE.names:
                refusal(self, BadName, call, TABLE, name, name)

    def test_names_also_for_a_pair_that_is_no_reason(self):
        refusal(self, BadName, is_reason, TABLE, "mail", "mail", (0, 0))
        refusal(self, BadName, is_reason, TABLE, "mail", "back", (-1, 0))

    def test_the_timetable_is_checked_first(self):
        for call in self.calls:
            for table in NOT_TABLES:
                self.assertIsNone(refusal(self, BadTimetable, call, table, "mail", "sync").part)
                self.assertIsNone(refusal(self, BadTimetable, call, table, "mail", "mail").part)
                self.assertIsNone(refusal(self, BadTimetable, call, table, 3, None).part)


class Meetings(unittest.TestCase):
    def test_all_shifts_and_times(self):
        for one, other in [((4, 2, 0), (6, 1, 2)), ((3, 1, 2), (5, 4, 4)), ((1, 1, 0), (6, 2, 5)), ((6, 3, 1), (6, 3, 4))]:
            table = table_of(one, other)
            for left in range(one[0]):
                for right in range(other[0]):
                    times = (times_of(one[0], one[1], (one[2] + left) % one[0], 40)
                             & times_of(other[0], other[1], (other[2] + right) % other[0], 40))
                    found = {time for time in range(40) if is_meeting(table, ("one", "other", left, right, time))}
                    self.assertEqual(found, times, (one, other, left, right))

    def test_results_are_truth_values(self):
        self.assertIs(is_meeting(TABLE, ("mail", "sync", 0, 0, 8)), True)
        self.assertIs(is_meeting(TABLE, ("mail", "sync", 0, 0, 2)), False)
        self.assertIs(is_meeting(TABLE, ("mail", "sync", 0, 0, 4)), False)
        self.assertIs(is_meeting(TABLE, ("mail", "sync", 0, 0, 3)), False)

    def test_far_away(self):
        self.assertIs(is_meeting(TABLE, ("mail", "sync", 0, 0, 8 + 12 * 10 ** 30)), True)
        self.assertIs(is_meeting(TABLE, ("mail", "sync", 0, 0, 9 + 12 * 10 ** 30)), False)

    def test_as_in_the_shifted_timetable(self):
        for shifts in [(0, 0, 0), (3, 5, 1), (1, 2, 0), (2, 0, 1)]:
            table = shifted(TABLE, shifts)
            for at, other, first, second in [(0, 1, "mail", "sync"), (0, 2, "mail", "log"), (1, 2, "sync", "log")]:
                for time in range(24):
                    found = (first, second, shifts[at], shifts[other], time)
                    both = first in table(time) and second in table(time)
                    self.assertIs(is_meeting(TABLE, found), both)


class BadMeetings(unittest.TestCase):
    good = ("mail", "sync", 0, 1, 9)

    def check(self, found):
        refusal(self, BadMeeting, is_meeting, TABLE, found)

    def changed(self, at, value):
        found = list(self.good)
        found[at] = value
        return tuple(found)

    def test_the_good_one(self):
        self.assertIs(is_meeting(TABLE, self.good), True)

    def test_what_is_no_tuple(self):
        for found in [None, True, 0, "mails", b"", list(self.good), {"mail": 0}, set(self.good), TABLE, object()]:
            self.check(found)

    def test_wrong_length(self):
        for found in [(), ("mail",), self.good[:4], self.good + (0,), ("mail", "sync"), (self.good,)]:
            self.check(found)

    def test_names(self):
        for value in NOT_NAMES + ["back", "mails"]:
            self.check(self.changed(0, value))
            self.check(self.changed(1, value))

    def test_order_of_the_jobs(self):
        for found in [("sync", "mail", 0, 0, 8), ("log", "mail", 0, 0, 1), ("log", "sync", 0, 0, 8),
                      ("mail", "mail", 0, 0, 0), ("log", "log", 0, 0, 1)]:
            self.check(found)
        self.assertIs(is_meeting(TABLE, ("sync", "log", 1, 0, 3)), True)

    def test_shifts(self):
        for value in NOT_INTEGERS + [-1, 6, 100]:
            self.check(self.changed(2, value))
            self.check(self.changed(3, value))
        self.check(self.changed(2, 4))
        self.check(self.changed(3, 6))
        self.assertIs(is_meeting(TABLE, ("mail", "sync", 3, 5, 7)), True)
        self.assertIs(is_meeting(TABLE, ("mail", "log", 3, 1, 4)), True)
        self.check(("mail", "log", 3, 2, 4))

    def test_times(self):
        for value in NOT_INTEGERS + [-1, -3, -12]:
            self.check(self.changed(4, value))

    def test_the_timetable_is_checked_first(self):
        for table in NOT_TABLES:
            for found in [self.good, None, (), ("sync", "mail", 0, 0, 8)]:
                self.assertIsNone(refusal(self, BadTimetable, is_meeting, table, found).part)


if __name__ == "__main__":
    unittest.main()
