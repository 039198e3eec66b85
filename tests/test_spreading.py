import random
import unittest
from itertools import combinations, permutations

from account import (NOT_TABLES, all_shifts_of, cost_of, cycle_of, free_account, random_jobs, refusal, table_of,
                     times_of)
from keepapart.errors import BadTimetable
from keepapart.jobs import Job, Timetable
from keepapart.spreading import NoSpread, Spread, cheapest, free_shifts

ONES = (1, 1, 1, 1)

# Period, duration and start of jobs with large products of their periods, and their costs.
LARGEST = [
    ([(10, 1, 3), (10, 2, 3), (10, 3, 4), (2, 1, 1)], (3, 1, 9, 5)),
    ([(10, 1, 3), (10, 2, 3), (5, 1, 4), (4, 1, 1)], (9, 7, 1, 2)),
    ([(8, 1, 7), (10, 1, 7), (5, 1, 4), (5, 2, 4)], (2, 2, 2, 2)),
    ([(12, 3, 0), (12, 4, 0), (12, 5, 0), (1, 1, 0)], (1, 2, 3, 4)),
    ([(12, 3, 0), (12, 4, 0), (12, 5, 0)], (1, 2, 3)),
    ([(12, 1, 11), (12, 1, 11), (12, 10, 11)], (9, 9, 9)),
    ([(11, 1, 0), (12, 1, 0), (11, 2, 0)], (1, 1, 1)),
    ([(12, 2, 5), (6, 2, 5), (9, 1, 5), (3, 1, 2)], (5, 4, 3, 2)),
    ([(12, 1, 5), (6, 1, 5), (9, 1, 5), (3, 1, 2)], (5, 4, 3, 2)),
    ([(10, 1, 3), (10, 1, 3), (10, 1, 4), (2, 1, 1)], (3, 1, 9, 5)),
    ([(12, 1, 0), (12, 1, 0), (6, 1, 0), (2, 1, 0)], (1, 1, 1, 9)),
    ([(8, 1, 0), (8, 1, 0), (8, 1, 0), (3, 1, 0)], (1, 1, 1, 1)),
    ([(8, 2, 0), (6, 1, 0), (10, 1, 0), (4, 1, 0)], (6, 5, 4, 3)),
    ([(6, 1, 2), (6, 2, 2), (6, 2, 2), (6, 1, 2)], (4, 3, 2, 1)),
]


def reasons_hold(made, names, shifts, reasons):
    """Whether a dict holds a reason for each pair in the shifted timetable, in the order of the pairs."""
    starts = [(start + shift) % period for (period, _, start), shift in zip(made, shifts)]
    if list(reasons) != list(combinations(names, 2)):
        return False
    for (one, other), (divisor, distance) in zip(combinations(range(len(made)), 2), reasons.values()):
        if made[one][0] % divisor != 0 or made[other][0] % divisor != 0:
            return False
        if not made[one][1] <= distance <= divisor - made[other][1]:
            return False
        if (starts[one] + distance - starts[other]) % divisor != 0:
            return False
    return True


def uncovered(made, names, meetings, candidates):
    """Those shifts to which no meeting applies; None if one of the tuples is not a meeting."""
    until = cycle_of(made)
    parts = set()
    for first, second, one, other, time in meetings:
        at, to = names.index(first), names.index(second)
        if not at < to or not 0 <= one < made[at][0] or not 0 <= other < made[to][0] or time < 0:
            return None
        for place, shift in [(at, one), (to, other)]:
            period, duration, start = made[place]
            if time % until not in times_of(period, duration, (start + shift) % period, until):
                return None
        parts.add((at, to, one, other))
    return [shifts for shifts in candidates
            if not any((at, to, shifts[at], shifts[to]) in parts for at, to in combinations(range(len(made)), 2))]


class AgainstAllShifts(unittest.TestCase):
    def check(self, made, costs=ONES):
        """Check all that is said of one timetable, and tell what its answer is."""
        table = table_of(*made, costs=costs)
        free = free_account(made)
        self.assertEqual(free_shifts(table), free, made)
        found = cheapest(table)
        if free:
            lowest = min(cost_of(shifts, costs) for shifts in free)
            self.assertIs(type(found), Spread, made)
            self.assertEqual(found.shifts, [shifts for shifts in free if cost_of(shifts, costs) == lowest][0])
            self.assertTrue(reasons_hold(made, table.names, found.shifts, found.reasons), made)
            candidates = [shifts for shifts in all_shifts_of(made) if cost_of(shifts, costs) < lowest]
        else:
            self.assertIs(type(found), NoSpread, made)
            candidates = all_shifts_of(made)
        self.assertIs(type(found.meetings), list)
        self.assertTrue(all(type(one) is tuple for one in found.meetings))
        self.assertEqual(uncovered(made, table.names, found.meetings, candidates), [], made)
        self.assertIs(found.shows(table), True, made)
        self.assertEqual(table, table_of(*made, costs=costs))
        return found

    def test_many_timetables(self):
        luck = random.Random(7)
        seen = {Spread: 0, NoSpread: 0}
        for _ in range(400):
            made = random_jobs(luck, largest=300)
            costs = [luck.randint(1, 9) for _ in made]
            found = self.check(made, costs)
            seen[type(found)] += len(made) > 1
        self.assertGreater(min(seen.values()), 15)

    def test_many_timetables_that_can_be_free(self):
        luck = random.Random(8)
        seen = 0
        for _ in range(60):
            periods = luck.choice([(6, 6, 6), (4, 8, 4), (12, 6, 3), (12, 8), (9, 6, 3, 3), (4, 4, 4, 4), (10, 5, 5)])
            made = [(period, luck.randint(1, max(1, period // 3)), luck.randrange(period)) for period in periods]
            found = self.check(made, [luck.randint(1, 9) for _ in made])
            seen += type(found) is Spread and cost_of(found.shifts, ONES) > 0
        self.assertGreater(seen, 20)

    def test_largest_timetables(self):
        for made, costs in LARGEST:
            self.check(made, costs)

    def test_one_job_alone(self):
        for period in range(1, 13):
            found = self.check([(period, period, period - 1)], [9])
            self.assertEqual((found.shifts, found.reasons, found.meetings), ((0,), {}, []))
            self.assertEqual(free_shifts(table_of((period, 1, 0))), [(shift,) for shift in range(period)])

    def test_free_already(self):
        for made in [[(4, 1, 0), (4, 1, 1), (4, 1, 2), (4, 1, 3)], [(12, 2, 3), (6, 1, 5)], [(2, 1, 1), (2, 1, 0)]]:
            found = self.check(made, (9, 9, 9, 9))
            self.assertEqual(found.shifts, (0,) * len(made))
            self.assertEqual(uncovered(made, table_of(*made).names, found.meetings, []), [])

    def test_never_free(self):
        for made in [[(1, 1, 0), (1, 1, 0)], [(11, 1, 0), (12, 1, 5)], [(12, 12, 3), (12, 1, 0)],
                     [(4, 3, 0), (6, 1, 0)], [(2, 1, 0), (2, 1, 0), (2, 1, 0)],
                     [(6, 2, 0), (6, 2, 0), (6, 2, 0), (6, 1, 0)], [(4, 1, 0), (4, 1, 0), (4, 1, 0), (2, 1, 0)],
                     [(4, 1, 0), (5, 1, 2), (4, 1, 0)], [(3, 1, 0), (3, 1, 0), (6, 1, 0), (1, 1, 0)]]:
            self.assertIs(type(self.check(made)), NoSpread)
            self.assertEqual(free_shifts(table_of(*made)), [])

    def test_ties_of_equal_cost(self):
        # The first ones of the cheapest shifts leave the first jobs where they are.
        self.assertEqual(self.check([(3, 1, 0), (3, 1, 0)]).shifts, (0, 1))
        self.assertEqual(self.check([(4, 1, 0), (4, 1, 0), (4, 1, 0)]).shifts, (0, 1, 2))
        self.assertEqual(self.check([(4, 2, 0), (4, 2, 0)], (5, 5)).shifts, (0, 2))
        self.assertEqual(self.check([(6, 2, 0), (6, 2, 0), (6, 2, 0)], (4, 4, 4)).shifts, (0, 2, 4))
        self.assertEqual(self.check([(4, 1, 0), (4, 1, 0)], (1, 2)).shifts, (1, 0))
        self.assertEqual(self.check([(4, 1, 1), (4, 2, 0)], (2, 1)).shifts, (0, 2))

    def test_first_of_the_cheapest_is_not_the_first_free_one(self):
        made, costs = [(4, 1, 0), (6, 1, 0)], (1, 5)
        self.assertEqual(free_account(made)[0], (0, 1))
        self.assertEqual(self.check(made, costs).shifts, (1, 0))

    def test_results_are_new(self):
        table = table_of((4, 1, 0), (4, 1, 0))
        free_shifts(table).clear()
        cheapest(table).reasons.clear()
        cheapest(table).meetings.clear()
        self.check([(4, 1, 0), (4, 1, 0)])


class Refused(unittest.TestCase):
    def test_no_timetable(self):
        good = cheapest(table_of((4, 1, 0), (4, 1, 0)))
        bad = cheapest(table_of((4, 1, 0), (5, 1, 0)))
        for value in NOT_TABLES:
            for call in [cheapest, free_shifts, good.shows, bad.shows]:
                self.assertIsNone(refusal(self, BadTimetable, call, value).part)


class Attributes(unittest.TestCase):
    def test_dict_and_lists_are_copied(self):
        reasons = {("a", "b"): (4, 1)}
        meetings = [("a", "b", 0, 0, 0)]
        spread, none = Spread((0, 1), reasons, meetings), NoSpread(meetings)
        self.assertIsNot(spread.reasons, reasons)
        self.assertIsNot(spread.meetings, meetings)
        self.assertIsNot(none.meetings, meetings)
        reasons[("a", "c")] = (2, 1)
        meetings.append(("a", "b", 1, 1, 1))
        self.assertEqual(spread.shifts, (0, 1))
        self.assertEqual(spread.reasons, {("a", "b"): (4, 1)})
        self.assertEqual(spread.meetings, [("a", "b", 0, 0, 0)])
        self.assertEqual(none.meetings, [("a", "b", 0, 0, 0)])

    def test_set_on_each_object(self):
        self.assertEqual(set(vars(Spread((0,), {}, []))), {"shifts", "reasons", "meetings"})
        self.assertEqual(set(vars(NoSpread([]))), {"meetings"})

    def test_by_keyword(self):
        self.assertEqual(Spread(meetings=[], reasons={}, shifts=(0,)), Spread((0,), {}, []))
        self.assertEqual(NoSpread(meetings=[]), NoSpread([]))


class Equality(unittest.TestCase):
    parts = ((0, 1), {("a", "b"): (4, 1), ("a", "c"): (2, 1)}, [("a", "b", 0, 0, 0), ("a", "b", 1, 1, 1)])

    def test_equal_attributes(self):
        self.assertTrue(Spread(*self.parts) == Spread(*self.parts))
        self.assertFalse(Spread(*self.parts) != Spread(*self.parts))
        self.assertTrue(NoSpread(self.parts[2]) == NoSpread(self.parts[2]))
        self.assertFalse(NoSpread(self.parts[2]) != NoSpread(self.parts[2]))

    def test_each_attribute_counts(self):
        shifts, reasons, meetings = self.parts
        others = [Spread((0, 2), reasons, meetings), Spread(shifts, {}, meetings),
                  Spread(shifts, {**reasons, ("a", "c"): (4, 1)}, meetings), Spread(shifts, reasons, []),
                  Spread(shifts, reasons, meetings[::-1])]
        for other in others:
            self.assertFalse(Spread(*self.parts) == other)
            self.assertTrue(Spread(*self.parts) != other)
        for other in [[], meetings[:1], meetings[::-1], meetings * 2]:
            self.assertFalse(NoSpread(meetings) == NoSpread(other))

    def test_order_of_a_dict_does_not_count(self):
        shifts, reasons, meetings = self.parts
        self.assertEqual(Spread(shifts, dict(reversed(list(reasons.items()))), meetings), Spread(*self.parts))

    def test_across_the_two(self):
        self.assertFalse(Spread((0,), {}, []) == NoSpread([]))
        self.assertFalse(NoSpread([]) == Spread((0,), {}, []))
        self.assertTrue(Spread((0,), {}, []) != NoSpread([]))

    def test_other_kinds(self):
        for other in [None, 0, (), [], {}, ((0,), {}, []), "spread"]:
            self.assertFalse(Spread((0,), {}, []) == other)
            self.assertFalse(NoSpread([]) == other)

    def test_current_attributes_count(self):
        one, other = Spread(*self.parts), Spread(*self.parts)
        other.meetings.pop()
        self.assertNotEqual(one, other)
        one.meetings = [("a", "b", 0, 0, 0)]
        self.assertEqual(one, other)
        none = NoSpread([])
        none.meetings.append(("a", "b", 0, 0, 0))
        self.assertEqual(none, NoSpread([("a", "b", 0, 0, 0)]))


class SpreadShows(unittest.TestCase):
    """mail and sync share all their times at first, log is apart from both; shifting sync costs more."""

    def setUp(self):
        self.table = Timetable({"mail": Job(12, 2, cost=2), "sync": Job(6, 1, cost=3), "log": Job(12, 1, start=3)})
        self.found = cheapest(self.table)
        self.shown = (self.found.shifts, self.found.reasons, self.found.meetings)
        self.assertEqual(self.found.shifts, (1, 0, 0))

    def shows(self, shifts=None, reasons=None, meetings=None):
        given = [shifts, reasons, meetings]
        made = [old if new is None else new for old, new in zip(self.shown, given)]
        return Spread(*made).shows(self.table)

    def test_the_answer_itself(self):
        self.assertIs(self.found.shows(self.table), True)
        self.assertIs(self.shows(), True)

    def test_other_reasons(self):
        # mail at 1 and 2, sync at 0 and 6, log at 3: each pair within all common divisors.
        choices = {("mail", "sync"): {(6, 5), (3, 2)}, ("mail", "log"): {(12, 2), (6, 2), (4, 2), (3, 2)},
                   ("sync", "log"): {(6, 3), (2, 1)}}
        for pair, right in choices.items():
            for divisor in range(-3, 14):
                for distance in range(-3, 14):
                    reasons = {**self.found.reasons, pair: (divisor, distance)}
                    self.assertIs(self.shows(reasons=reasons), (divisor, distance) in right, (pair, divisor, distance))

    def test_reasons_in_any_order(self):
        for items in permutations(self.found.reasons.items()):
            self.assertIs(self.shows(reasons=dict(items)), True)

    def test_reasons_of_the_timetable_that_is_not_shifted(self):
        # The distance of the starts as they are: the shift of mail is forgotten.
        self.assertIs(self.shows(reasons={**self.found.reasons, ("mail", "log"): (12, 3)}), False)

    def test_additional_meetings(self):
        # For shifts of the same cost, for shifts that cost more, at later times, and twice.
        for more in [[("mail", "sync", 1, 1, 1)], [("mail", "log", 2, 0, 3)], [("sync", "log", 3, 0, 3)],
                     [("mail", "sync", 0, 0, 12 * 10 ** 20)], self.found.meetings]:
            self.assertIs(self.shows(meetings=self.found.meetings + more), True, more)
            self.assertIs(self.shows(meetings=more + self.found.meetings), True, more)

    def test_meetings_in_another_order_or_at_other_times(self):
        self.assertIs(self.shows(meetings=self.found.meetings[::-1]), True)
        later = [(*found[:4], found[4] + 12) for found in self.found.meetings]
        self.assertIs(self.shows(meetings=later), True)

    def test_meeting_left_out(self):
        needed = [shifts for shifts in all_shifts_of([(12, 2, 0), (6, 1, 0), (12, 1, 3)])
                  if cost_of(shifts, (2, 3, 1)) < 2]
        self.assertEqual(needed, [(0, 0, 0), (0, 0, 1)])
        for at in range(len(self.found.meetings)):
            self.assertIs(self.shows(meetings=self.found.meetings[:at] + self.found.meetings[at + 1:]), False)
        self.assertIs(self.shows(meetings=[]), False)
        self.assertIs(self.shows(meetings=[("mail", "sync", 0, 0, 6 * 10)]), True)

    def test_tuple_that_is_not_a_meeting(self):
        for wrong in [("mail", "sync", 0, 0, 1), ("mail", "sync", 0, 0, 6), ("mail", "sync", 1, 0, 0),
                      ("mail", "log", 0, 0, 3), ("sync", "log", 0, 0, 0)]:
            self.assertIs(self.shows(meetings=self.found.meetings + [wrong]), False, wrong)
            self.assertIs(self.shows(meetings=[wrong] + self.found.meetings), False, wrong)

    def test_shifts_of_the_same_cost(self):
        table = Timetable({"mail": Job(4), "sync": Job(4)})
        for shifts, distance in [((0, 1), 1), ((1, 0), 3)]:
            reasons = {("mail", "sync"): (4, distance)}
            self.assertIs(Spread(shifts, reasons, [("mail", "sync", 0, 0, 4)]).shows(table), True)

    def test_shifts_that_cost_more(self):
        made, names = [(12, 2, 0), (6, 1, 0), (12, 1, 3)], self.table.names
        every = [(names[at], names[to], one, other, time) for at, to in combinations(range(3), 2)
                 for one in range(made[at][0]) for other in range(made[to][0])
                 for time in sorted(times_of(made[at][0], made[at][1], (made[at][2] + one) % made[at][0], 12)
                                    & times_of(made[to][0], made[to][1], (made[to][2] + other) % made[to][0], 12))]
        self.assertEqual(uncovered(made, names, every, [(0, 0, 0), (0, 0, 1), (1, 0, 0), (0, 2, 0)]),
                         [(1, 0, 0), (0, 2, 0)])
        self.assertIs(self.shows(meetings=every), True)
        for shifts, reasons in [((0, 2, 0), [(6, 2), (12, 3), (6, 1)]), ((1, 0, 1), [(6, 5), (12, 3), (6, 4)])]:
            reasons = dict(zip(combinations(names, 2), reasons))
            self.assertTrue(reasons_hold(made, names, shifts, reasons))
            self.assertIs(self.shows(shifts, reasons, every), False)

    def test_shifts_with_which_it_is_not_free(self):
        reasons = {("mail", "sync"): (6, 0), ("mail", "log"): (12, 3), ("sync", "log"): (6, 3)}
        self.assertIs(self.shows((0, 0, 0), reasons, []), False)
        self.assertIs(self.shows((0, 0, 0)), False)
        self.assertIs(self.shows((0, 1, 0)), False)

    def test_another_timetable(self):
        dearer = Timetable({"mail": Job(12, 2, cost=9), "sync": Job(6, 1, cost=3), "log": Job(12, 1, start=3)})
        self.assertIs(self.found.shows(dearer), False)
        cheaper = Timetable({"mail": Job(12, 2, cost=1), "sync": Job(6, 1, cost=3), "log": Job(12, 1, start=3)})
        self.assertIs(self.found.shows(cheaper), True)

    def test_current_attributes(self):
        self.found.reasons[("mail", "sync")] = (12, 5)
        self.assertIs(self.found.shows(self.table), False)
        self.found.reasons = {**self.found.reasons, ("mail", "sync"): (3, 2)}
        self.assertIs(self.found.shows(self.table), True)
        self.found.meetings.append(("mail", "sync", 0, 0, 1))
        self.assertIs(self.found.shows(self.table), False)
        self.found.meetings = [("mail", "sync", 0, 0, 0)]
        self.assertIs(self.found.shows(self.table), True)
        self.found.shifts = (0, 2, 0)
        self.assertIs(self.found.shows(self.table), False)

    def test_nothing_is_changed(self):
        before = Spread(*self.shown)
        self.found.shows(self.table)
        self.assertEqual(self.found, before)

    def test_changed_answers_of_large_timetables(self):
        seen = 0
        for made, costs in LARGEST:
            table = table_of(*made, costs=costs)
            found = cheapest(table)
            if type(found) is Spread:
                seen += 1
                for pair, (divisor, distance) in found.reasons.items():
                    wrong = {**found.reasons, pair: (divisor, distance + divisor)}
                    self.assertIs(Spread(found.shifts, wrong, found.meetings).shows(table), False)
                self.assertIs(Spread(found.shifts, found.reasons, []).shows(table), found.shifts == (0,) * len(made))
                self.assertIs(NoSpread(found.meetings).shows(table), False)
        self.assertGreater(seen, 3)


class NoSpreadShows(unittest.TestCase):
    def setUp(self):
        self.table = Timetable({"mail": Job(2), "sync": Job(2), "log": Job(2, start=1)})
        self.found = cheapest(self.table)
        self.assertIs(type(self.found), NoSpread)

    def test_the_answer_itself(self):
        self.assertIs(self.found.shows(self.table), True)
        self.assertIs(NoSpread(self.found.meetings[::-1]).shows(self.table), True)

    def test_each_choice_of_meetings(self):
        made, names = [(2, 1, 0), (2, 1, 0), (2, 1, 1)], self.table.names
        meetings = [("mail", "sync", 0, 0, 0), ("mail", "sync", 1, 1, 7), ("mail", "log", 0, 1, 2),
                    ("mail", "log", 1, 0, 1), ("sync", "log", 0, 1, 4), ("sync", "log", 1, 0, 3)]
        seen = []
        for many in range(7):
            for chosen in combinations(meetings, many):
                gap = uncovered(made, names, chosen, all_shifts_of(made))
                self.assertIs(NoSpread(list(chosen)).shows(self.table), gap == [], chosen)
                seen.append(gap == [])
        self.assertIn(True, seen)
        self.assertIn(False, seen)

    def test_each_meeting_of_two_jobs_is_needed(self):
        table = Timetable({"mail": Job(4), "sync": Job(5, 2)})
        found = cheapest(table)
        self.assertIs(found.shows(table), True)
        self.assertEqual(len(found.meetings), 20)
        for at in range(20):
            self.assertIs(NoSpread(found.meetings[:at] + found.meetings[at + 1:]).shows(table), False)

    def test_tuple_that_is_not_a_meeting(self):
        for wrong in [("mail", "sync", 0, 0, 1), ("mail", "sync", 0, 1, 0), ("sync", "log", 0, 0, 0)]:
            self.assertIs(NoSpread(self.found.meetings + [wrong]).shows(self.table), False)
            self.assertIs(NoSpread([wrong] + self.found.meetings).shows(self.table), False)

    def test_where_there_are_free_shifts(self):
        table = Timetable({"mail": Job(2), "sync": Job(2)})
        every = [("mail", "sync", 0, 0, 0), ("mail", "sync", 1, 1, 1)]
        self.assertIs(NoSpread(every).shows(table), False)
        self.assertIs(NoSpread([]).shows(table), False)
        self.assertIs(NoSpread(every).shows(Timetable({"mail": Job(2, 2), "sync": Job(2)})), False)
        self.assertIs(NoSpread([]).shows(Timetable({"mail": Job(1)})), False)

    def test_spread_where_there_is_none(self):
        for reason in [(2, 0), (2, 1), (1, 0), (1, 1)]:
            reasons = {("mail", "sync"): reason, ("mail", "log"): (2, 1), ("sync", "log"): (2, 1)}
            self.assertIs(Spread((0, 0, 0), reasons, self.found.meetings).shows(self.table), False)

    def test_current_attributes(self):
        self.found.meetings.append(("mail", "sync", 0, 0, 1))
        self.assertIs(self.found.shows(self.table), False)
        self.found.meetings.pop()
        self.assertIs(self.found.shows(self.table), True)
        self.found.meetings = []
        self.assertIs(self.found.shows(self.table), False)


if __name__ == "__main__":
    unittest.main()
