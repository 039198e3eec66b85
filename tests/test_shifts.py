import unittest
from itertools import product

from account import NOT_INTEGERS, refusal
from keepapart.errors import BadShifts, BadTimetable
from keepapart.jobs import Job, Timetable, shift_cost, shifted

TABLE = Timetable({"mail": Job(4, 2, start=3, cost=2), "sync": Job(6, start=2, cost=9), "log": Job(1, cost=7)})


def moved(period, duration, start, cost, shift):
    """The shifted job, step by step."""
    for _ in range(shift):
        start = 0 if start == period - 1 else start + 1
    return Job(period, duration, start=start, cost=cost)


class Shifted(unittest.TestCase):
    def test_all_shifts(self):
        for one, other in product(range(4), range(6)):
            expected = Timetable({"mail": moved(4, 2, 3, 2, one), "sync": moved(6, 1, 2, 9, other),
                                  "log": Job(1, cost=7)})
            self.assertEqual(shifted(TABLE, (one, other, 0)), expected)

    def test_zeros_change_nothing(self):
        self.assertEqual(shifted(TABLE, (0, 0, 0)), TABLE)

    def test_the_timetable_stays(self):
        self.assertNotEqual(shifted(TABLE, (1, 2, 0)), TABLE)
        self.assertEqual(TABLE["mail"].start, 3)
        self.assertEqual(TABLE["sync"].start, 2)

    def test_one_and_four_jobs(self):
        self.assertEqual(shifted(Timetable({"a": Job(12)}), (11,)), Timetable({"a": Job(12, start=11)}))
        table = Timetable({name: Job(5, start=4) for name in "abcd"})
        self.assertEqual([shifted(table, (1, 2, 3, 4))[name].start for name in "abcd"], [0, 1, 2, 3])


class Cost(unittest.TestCase):
    def test_all_shifts(self):
        for one, other in product(range(4), range(6)):
            single = [2] * one + [9] * other
            self.assertEqual(shift_cost(TABLE, (one, other, 0)), sum(single))

    def test_bounds(self):
        table = Timetable({name: Job(period, cost=9) for name, period in zip("abc", [12, 12, 12])})
        self.assertEqual(shift_cost(table, (11, 11, 11)), 297)
        self.assertEqual(shift_cost(table, (0, 0, 0)), 0)


class Refused(unittest.TestCase):
    def check(self, shifts):
        refusal(self, BadShifts, shifted, TABLE, shifts)
        refusal(self, BadShifts, shift_cost, TABLE, shifts)

    def test_what_is_no_tuple(self):
        for shifts in [None, True, 0, "000", b"000", [0, 0, 0], {0: 0, 1: 0, 2: 0}, {0}, range(3), TABLE, object()]:
            self.check(shifts)

    def test_wrong_length(self):
        for shifts in [(), (0,), (0, 0), (0, 0, 0, 0)]:
            self.check(shifts)

    def test_out_of_range(self):
        for shifts in [(4, 0, 0), (0, 6, 0), (0, 0, 1), (-1, 0, 0), (0, -1, 0), (0, 0, -1), (5, 3, 0), (10 ** 20, 0, 0)]:
            self.check(shifts)
        self.assertEqual(shift_cost(TABLE, (3, 5, 0)), 51)

    def test_what_is_no_integer(self):
        for value in NOT_INTEGERS:
            for at in range(3):
                shifts = [0, 0, 0]
                shifts[at] = value
                self.check(tuple(shifts))

    def test_the_timetable_is_checked_first(self):
        for table in [None, 0, "mail", {"mail": Job(4)}, Job(4), [TABLE], Timetable]:
            for shifts in [(0,), None, (9, 9, 9, 9, 9)]:
                self.assertIsNone(refusal(self, BadTimetable, shifted, table, shifts).part)
                self.assertIsNone(refusal(self, BadTimetable, shift_cost, table, shifts).part)


if __name__ == "__main__":
    unittest.main()
