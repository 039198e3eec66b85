import inspect
import random
import unittest
from math import lcm

from account import NOT_INTEGERS, NOT_TABLES, all_jobs, loads_account, random_jobs, refusal, table_of, times_of
from keepapart.errors import BadJob, BadTimetable
from keepapart.jobs import Job, Timetable
from keepapart.stretches import cycle, longest, peak, room, stretches


def stretches_account(made):
    """All stretches, found in three cycles in a row, from the middle one."""
    loads = loads_account(made)
    row = "".join("x" if load else "." for load in loads) * 3
    size = len(loads)
    found = []
    for time in range(size):
        if row[size + time - 1:size + time + 1] == "x.":
            found.append((time, row.index("x", size + time) - size - time))
    return found


class OverTheCycle(unittest.TestCase):
    def check(self, made):
        table = table_of(*made)
        loads = loads_account(made)
        expected = stretches_account(made)
        self.assertEqual(cycle(table), len(loads), made)
        self.assertEqual(list(stretches(table)), expected, made)
        greatest = max(length for _, length in expected) if expected else None
        first = next((pair for pair in expected if pair[1] == greatest), None)
        self.assertEqual(longest(table), first, made)
        self.assertEqual(peak(table), (max(loads), loads.index(max(loads))), made)
        self.assertEqual(table, table_of(*made))
        return expected

    def test_all_single_jobs(self):
        for one in all_jobs(12):
            self.check([one])

    def test_many_timetables(self):
        luck = random.Random(11)
        seen = 0
        for _ in range(150):
            made = random_jobs(luck)
            found = self.check(made)
            lengths = [length for _, length in found]
            # Several longest ones, of which the first is not the first of all.
            seen += lengths.count(max(lengths, default=0)) > 1 and lengths[0] < max(lengths)
        self.assertGreater(seen, 5)

    def test_largest_cycles(self):
        for made in [[(11, 1, 10), (9, 2, 0), (5, 1, 0), (4, 1, 3)], [(8, 1, 3), (9, 2, 3), (5, 1, 4), (5, 2, 0)],
                     [(9, 1, 0), (10, 1, 9), (11, 1, 0), (2, 1, 1)], [(12, 1, 0), (11, 1, 0), (12, 1, 5)]]:
            self.check(made)
        self.assertEqual(cycle(table_of((11, 1, 0), (9, 1, 0), (5, 1, 0), (4, 1, 0))), 1980)

    def test_cycle_is_the_least_common_multiple(self):
        for made in [[(12, 1, 0)], [(1, 1, 0)], [(4, 1, 0), (6, 1, 0)], [(12, 1, 0), (12, 1, 0), (12, 1, 0)],
                     [(2, 1, 0), (3, 1, 0), (4, 1, 0), (6, 1, 0)], [(10, 1, 0), (10, 1, 0), (10, 1, 0), (2, 1, 0)]]:
            self.assertEqual(cycle(table_of(*made)), lcm(*[period for period, _, _ in made]))

    def test_beyond_the_end_of_the_cycle(self):
        self.assertEqual(list(stretches(table_of((4, 1, 1)))), [(2, 3)])
        self.assertEqual(longest(table_of((4, 1, 1))), (2, 3))
        self.assertEqual(list(stretches(table_of((12, 1, 4), (6, 1, 2)))), [(3, 1), (5, 3), (9, 5)])
        self.assertEqual(longest(table_of((12, 1, 4), (6, 1, 2))), (9, 5))

    def test_up_to_and_from_the_ends_of_the_cycle(self):
        self.assertEqual(list(stretches(table_of((4, 2, 0)))), [(2, 2)])
        self.assertEqual(list(stretches(table_of((4, 2, 2)))), [(0, 2)])
        self.assertEqual(list(stretches(table_of((4, 2, 3)))), [(1, 2)])

    def test_none_at_all(self):
        for made in [[(1, 1, 0)], [(12, 12, 7)], [(4, 2, 0), (4, 2, 2)], [(2, 1, 0), (2, 1, 1), (11, 1, 0)]]:
            table = table_of(*made)
            self.assertEqual(list(stretches(table)), [])
            self.assertIsNone(longest(table))

    def test_first_of_equal_ones(self):
        self.assertEqual(longest(table_of((12, 1, 0), (12, 1, 2), (12, 1, 7))), (3, 4))
        self.assertEqual(list(stretches(table_of((12, 1, 0), (12, 1, 2), (12, 1, 7)))), [(1, 1), (3, 4), (8, 4)])
        self.assertEqual(longest(table_of((6, 1, 3), (12, 1, 3))), (4, 5))

    def test_peak_and_its_first_time(self):
        self.assertEqual(peak(table_of((4, 1, 3))), (1, 3))
        self.assertEqual(peak(table_of((4, 1, 0), (4, 1, 1))), (1, 0))
        self.assertEqual(peak(table_of((4, 2, 3), (4, 2, 2))), (2, 3))
        self.assertEqual(peak(table_of((11, 1, 10), (12, 1, 11))), (2, 131))
        self.assertEqual(peak(table_of((2, 1, 1), (3, 1, 2), (4, 1, 3), (12, 1, 11))), (4, 11))


class Generator(unittest.TestCase):
    def test_it_is_one(self):
        self.assertTrue(inspect.isgeneratorfunction(stretches))
        found = stretches(table_of((4, 1, 1), (8, 1, 3)))
        self.assertEqual([next(found), next(found)], [(2, 1), (4, 1)])
        self.assertEqual(list(found), [(6, 3)])

    def test_items_are_tuples(self):
        for item in stretches(table_of((4, 1, 1), (8, 1, 3))):
            self.assertIs(type(item), tuple)

    def test_error_when_the_first_one_is_requested(self):
        for value in NOT_TABLES:
            found = stretches(value)
            self.assertIsNone(refusal(self, BadTimetable, next, found).part)

    def test_others_at_once(self):
        for value in NOT_TABLES:
            for call in [cycle, longest, peak]:
                self.assertIsNone(refusal(self, BadTimetable, call, value).part)


class Room(unittest.TestCase):
    def expected(self, made, names, period, duration):
        """The items, tried time by time."""
        found = []
        for start in range(period):
            item = None
            for name, one in zip(names, made):
                until = lcm(one[0], period)
                both = times_of(*one, until) & times_of(period, duration, start, until)
                if item is None and both:
                    item = (name, min(both))
            found.append(item)
        return found

    def check(self, made, period, duration):
        table = table_of(*made)
        found = room(table, period, duration)
        self.assertEqual(found, self.expected(made, table.names, period, duration), (made, period, duration))
        self.assertIs(type(found), list)
        return found

    def test_all_periods_and_durations(self):
        luck = random.Random(12)
        seen = {True: 0, False: 0}
        for _ in range(6):
            made = random_jobs(luck)
            for period in range(1, 13):
                for duration in range(1, period + 1):
                    for item in self.check(made, period, duration):
                        seen[item is None] += 1
        self.assertGreater(min(seen.values()), 20)

    def test_some_and_no_room(self):
        self.assertEqual(self.check([(4, 2, 0)], 4, 2), [("zeta", 0), ("zeta", 1), None, ("zeta", 0)])
        self.assertEqual(self.check([(4, 2, 0)], 8, 1), [("zeta", 0), ("zeta", 1), None, None,
                                                         ("zeta", 4), ("zeta", 5), None, None])
        self.assertEqual(self.check([(4, 2, 0)], 1, 1), [("zeta", 0)])

    def test_first_job_by_the_order_and_not_by_the_time(self):
        made = [(12, 1, 11), (12, 1, 0)]
        self.assertEqual(self.check(made, 1, 1), [("zeta", 11)])
        self.assertEqual(self.check(made[::-1], 1, 1), [("zeta", 0)])
        self.assertEqual(self.check(made, 12, 2), [("b", 0)] + [None] * 9 + [("zeta", 11), ("zeta", 11)])

    def test_product_above_the_limit(self):
        made = [(10, 1, 0), (10, 1, 2), (10, 1, 4), (2, 1, 1)]
        self.assertEqual(self.check(made, 10, 1), [("zeta", 0), ("a", 1), ("b", 2), ("a", 3), ("mail", 4), ("a", 5),
                                                   None, ("a", 7), None, ("a", 9)])
        for period in [2, 9, 10, 11, 12]:
            self.check(made, period, 1)
        self.check([(12, 3, 0), (12, 3, 3), (12, 3, 6)], 12, 3)

    def test_a_fifth_job(self):
        made = [(5, 1, 0), (5, 1, 1), (5, 1, 2), (5, 1, 3)]
        self.assertEqual(self.check(made, 5, 1), [("zeta", 0), ("b", 1), ("mail", 2), ("a", 3), None])

    def test_results_are_new(self):
        table = table_of((4, 2, 0))
        room(table, 4, 2).clear()
        self.assertEqual(len(room(table, 4, 2)), 4)
        self.assertEqual(table, table_of((4, 2, 0)))

    def test_what_is_no_period(self):
        for value in NOT_INTEGERS + [-12, -1, 0, 13, 10 ** 30]:
            refusal(self, BadJob, room, table_of((4, 2, 0)), value, 1)
            refusal(self, BadJob, room, table_of((4, 2, 0)), value, value)

    def test_what_is_no_duration(self):
        for period in range(1, 13):
            for value in NOT_INTEGERS + [-period, -1, 0, period + 1, 13, 10 ** 30]:
                refusal(self, BadJob, room, table_of((4, 2, 0)), period, value)

    def test_the_timetable_is_checked_first(self):
        for value in NOT_TABLES:
            for period, duration in [(4, 2), (0, 1), (4, 5), (None, None)]:
                self.assertIsNone(refusal(self, BadTimetable, room, value, period, duration).part)

    def test_by_keyword(self):
        table = Timetable({"mail": Job(4, 2), "sync": Job(6, start=2)})
        self.assertEqual(room(duration=1, period=6, timetable=table),
                         [("mail", 0), ("mail", 1), ("mail", 8), ("mail", 9), ("mail", 4), ("mail", 5)])


if __name__ == "__main__":
    unittest.main()
