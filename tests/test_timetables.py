import random
import unittest
from itertools import combinations, permutations

from account import NOT_INTEGERS, NOT_NAMES, job_of, random_jobs, refusal, times_of
from keepapart.errors import BadJob, BadName, BadTime, BadTimetable
from keepapart.jobs import Job, Timetable

CYCLE = 2000


class Making(unittest.TestCase):
    def part_of(self, jobs):
        return refusal(self, BadTimetable, Timetable, jobs).part

    def test_one_to_four_jobs(self):
        names = ["mail", "sync", "log", "back"]
        for many in range(1, 5):
            table = Timetable({name: Job(4) for name in names[:many]})
            self.assertEqual(table.names, names[:many])
            self.assertEqual(len(table), many)

    def test_order_is_that_of_the_dict(self):
        for names in permutations(["mail", "sync", "log"]):
            self.assertEqual(Timetable({name: Job(3) for name in names}).names, list(names))

    def test_none_and_five_jobs(self):
        self.assertIsNone(self.part_of({}))
        self.assertIsNone(self.part_of({name: Job(1) for name in "abcde"}))
        self.assertIsNone(self.part_of({name: Job(1) for name in "abcdefghijkl"}))

    def test_what_is_no_dict(self):
        for value in [None, True, 0, 3, "mail", b"", [], [("mail", Job(3))], (), {"mail"}, Job(3), object(), dict,
                      Timetable({"mail": Job(3)})]:
            self.assertIsNone(self.part_of(value))

    def test_names(self):
        for name in ["a", "z", "az", "mail", "abcdefgh", "zzzzzzzz", "stuvwxyz", "ijklmnop", "qr"]:
            self.assertEqual(Timetable({name: Job(3)}).names, [name])

    def test_what_is_no_name(self):
        for name in NOT_NAMES:
            try:
                jobs = {"mail": Job(3), name: Job(3), 7: Job(3)}
            except TypeError:
                continue
            self.assertEqual(self.part_of(jobs), name)
            self.assertIs(type(self.part_of(jobs)), type(name))

    def test_what_is_no_job(self):
        for value in NOT_INTEGERS + [4, -1, "mail", (4, 1, 0, 1), Job]:
            self.assertEqual(self.part_of({"mail": value}), "mail")
            self.assertEqual(self.part_of({"mail": Job(3), "sync": value, "log": None}), "sync")

    def test_first_one_at_fault(self):
        self.assertEqual(self.part_of({"mail": Job(3), "sync": 3, "Log": Job(3)}), "sync")
        self.assertEqual(self.part_of({"mail": Job(3), "Log": Job(3), "sync": 3}), "Log")
        self.assertEqual(self.part_of({True: Job(3), "sync": 3}), True)

    def test_number_of_jobs_comes_before_names(self):
        self.assertIsNone(self.part_of({"a": Job(1), "B": 1, "c": 2, "d": 3, "e": 4}))

    def test_names_come_before_the_product(self):
        jobs = {"a": Job(12), "b": Job(12), "c": Job(12), "D": Job(12)}
        self.assertEqual(self.part_of(jobs), "D")
        self.assertEqual(self.part_of({"a": Job(12), "b": Job(12), "c": Job(12), "d": 12}), "d")

    def test_product(self):
        for periods in [(10, 10, 5, 4), (10, 10, 10, 2), (2, 10, 10, 10), (12, 12, 12, 1), (12, 12, 12)]:
            table = Timetable({name: Job(period) for name, period in zip("abcd", periods)})
            self.assertEqual([table[name].period for name in table.names], list(periods))
        for periods in [(12, 12, 7, 2), (2, 7, 12, 12), (11, 11, 11, 2), (12, 12, 12, 12), (12, 12, 12, 2)]:
            self.assertIsNone(self.part_of({name: Job(period) for name, period in zip("abcd", periods)}))


class Unchanging(unittest.TestCase):
    def test_dict_is_neither_kept_nor_modified(self):
        jobs = {"mail": Job(4), "sync": Job(6)}
        table = Timetable(jobs)
        self.assertEqual(list(jobs.items()), [("mail", Job(4)), ("sync", Job(6))])
        jobs["log"] = Job(2)
        jobs["mail"] = Job(5)
        del jobs["sync"]
        self.assertEqual(table, Timetable({"mail": Job(4), "sync": Job(6)}))
        self.assertEqual(table.names, ["mail", "sync"])

    def test_returned_lists_are_new(self):
        table = Timetable({"mail": Job(4), "sync": Job(6)})
        table.names.append("log")
        table.names.clear()
        self.assertEqual(table.names, ["mail", "sync"])
        table(0).clear()
        self.assertEqual(table(0), ["mail", "sync"])

    def test_names_cannot_be_set(self):
        table = Timetable({"mail": Job(4)})
        with self.assertRaises(AttributeError):
            table.names = ["sync"]

    def test_operators_change_nothing(self):
        one, other = Timetable({"mail": Job(4)}), Timetable({"sync": Job(6)})
        self.assertEqual(len(one | other), 2)
        self.assertEqual((one >> 3)["mail"].start, 3)
        refusal(self, BadTimetable, lambda: one | one)
        refusal(self, BadJob, lambda: one >> -1)
        self.assertEqual(one, Timetable({"mail": Job(4)}))
        self.assertEqual(other, Timetable({"sync": Job(6)}))


class Lookup(unittest.TestCase):
    table = Timetable({"mail": Job(4, 2), "sync": Job(6, start=2)})

    def test_jobs_by_name(self):
        self.assertEqual(self.table["mail"], Job(4, 2))
        self.assertEqual(self.table["sync"], Job(6, start=2))

    def test_names_that_are_none(self):
        for value in NOT_NAMES + ["log", "mai", "mails", "sync mail", 4]:
            refusal(self, BadName, lambda: self.table[value])

    def test_in_with_values_of_any_kind(self):
        self.assertIs("mail" in self.table, True)
        self.assertIs("sync" in self.table, True)
        for value in NOT_NAMES + ["log", "mai", "mails", Job(4, 2), self.table, 1.5, float("nan")]:
            self.assertIs(value in self.table, False)
            self.assertIs(value not in self.table, True)

    def test_length(self):
        self.assertEqual(len(self.table), 2)
        self.assertEqual(len(Timetable({"mail": Job(9, 9)})), 1)


class Running(unittest.TestCase):
    def test_time_by_time(self):
        luck = random.Random(3)
        for _ in range(40):
            made = random_jobs(luck)
            names = ["zeta", "b", "mail", "a"][:len(made)]
            table = Timetable({name: job_of(one) for name, one in zip(names, made)})
            account = [times_of(*one, CYCLE + 100) for one in made]
            for time in range(CYCLE + 100):
                expected = [name for name, times in zip(names, account) if time in times]
                self.assertEqual(table(time), expected, (made, time))

    def test_far_away(self):
        table = Timetable({"mail": Job(10, 2), "sync": Job(5, 2, start=1)})
        self.assertEqual(table(10 ** 40), ["mail"])
        self.assertEqual(table(10 ** 40 + 1), ["mail", "sync"])
        self.assertEqual(table(10 ** 40 + 2), ["sync"])
        self.assertEqual(table(10 ** 40 + 3), [])

    def test_by_keyword(self):
        self.assertEqual(Timetable({"mail": Job(10)})(time=20), ["mail"])

    def test_what_is_no_time(self):
        for value in NOT_INTEGERS + [-1, -2000]:
            refusal(self, BadTime, Timetable({"mail": Job(10), "sync": Job(3)}), value)


class Truth(unittest.TestCase):
    def test_against_all_times(self):
        luck = random.Random(4)
        seen = {True: 0, False: 0}
        for _ in range(1500):
            made = random_jobs(luck)
            table = Timetable({name: job_of(one) for name, one in zip("abcd", made)})
            account = [times_of(*one, CYCLE) for one in made]
            free = not any(one & other for one, other in combinations(account, 2))
            self.assertIs(bool(table), free, made)
            seen[free] += len(made) > 1
        self.assertGreater(min(seen.values()), 20)

    def test_each_pair_counts(self):
        jobs = {"a": Job(4), "b": Job(4, start=1), "c": Job(4, start=2), "d": Job(4, start=3)}
        self.assertTrue(Timetable(jobs))
        for name, other in permutations(jobs, 2):
            self.assertFalse(Timetable({**jobs, name: jobs[other]}))

    def test_one_job_is_free(self):
        self.assertTrue(Timetable({"a": Job(1)}))
        self.assertTrue(Timetable({"a": Job(12, 12, start=5)}))

    def test_jobs_of_coprime_periods_meet(self):
        self.assertFalse(Timetable({"a": Job(11), "b": Job(12, start=5)}))
        self.assertFalse(Timetable({"a": Job(1), "b": Job(12, start=5)}))


class Equality(unittest.TestCase):
    def test_same_names_and_jobs(self):
        one = Timetable({"mail": Job(4, 2), "sync": Job(6, start=2)})
        other = Timetable({"mail": Job(4, 2), "sync": Job(6, start=2)})
        self.assertTrue(one == other)
        self.assertFalse(one != other)

    def test_what_makes_a_difference(self):
        one = Timetable({"mail": Job(4, 2), "sync": Job(6, start=2)})
        others = [Timetable({"sync": Job(6, start=2), "mail": Job(4, 2)}),
                  Timetable({"mail": Job(4, 2), "log": Job(6, start=2)}),
                  Timetable({"mail": Job(4, 2), "sync": Job(6, start=2, cost=2)}),
                  Timetable({"mail": Job(4), "sync": Job(6, start=2)}),
                  Timetable({"mail": Job(4, 2)}),
                  Timetable({"mail": Job(4, 2), "sync": Job(6, start=2), "log": Job(1)})]
        for other in others:
            self.assertFalse(one == other)
            self.assertTrue(one != other)
            self.assertFalse(other == one)

    def test_order_counts_also_for_equal_jobs(self):
        self.assertNotEqual(Timetable({"a": Job(4), "b": Job(4)}), Timetable({"b": Job(4), "a": Job(4)}))

    def test_other_kinds(self):
        jobs = {"mail": Job(4)}
        for other in [None, 1, "mail", ["mail"], jobs, list(jobs.items()), Job(4)]:
            self.assertFalse(Timetable(jobs) == other)
            self.assertTrue(Timetable(jobs) != other)


class Joining(unittest.TestCase):
    def test_left_ones_first(self):
        one = Timetable({"sync": Job(6), "mail": Job(4)})
        other = Timetable({"log": Job(2), "back": Job(3)})
        self.assertEqual((one | other).names, ["sync", "mail", "log", "back"])
        self.assertEqual((other | one).names, ["log", "back", "sync", "mail"])
        jobs = {"sync": Job(6), "mail": Job(4), "log": Job(2), "back": Job(3)}
        self.assertEqual(one | other, Timetable(jobs))

    def test_other_one_is_no_timetable(self):
        one = Timetable({"mail": Job(4)})
        for value in [None, 3, True, "sync", [], {"sync": Job(3)}, {}, Job(3), Timetable]:
            self.assertIsNone(refusal(self, BadTimetable, lambda: one | value).part)

    def test_name_in_both_by_the_order_of_the_right_one(self):
        one = Timetable({"a": Job(2), "b": Job(2), "c": Job(2)})
        for names, part in [("cb", "c"), ("bc", "b"), ("dcb", "c"), ("db", "b"), ("a", "a"), ("abc", "a")]:
            other = Timetable({name: Job(3) for name in names})
            self.assertEqual(refusal(self, BadTimetable, lambda: one | other).part, part)

    def test_equal_jobs_of_one_name_are_refused_too(self):
        one = Timetable({"mail": Job(2)})
        self.assertEqual(refusal(self, BadTimetable, lambda: one | one).part, "mail")

    def test_name_in_both_comes_before_number_and_product(self):
        one = Timetable({"a": Job(12), "b": Job(12), "c": Job(12)})
        self.assertEqual(refusal(self, BadTimetable, lambda: one | Timetable({"d": Job(2), "b": Job(2)})).part, "b")

    def test_too_many_jobs(self):
        one = Timetable({"a": Job(1), "b": Job(1), "c": Job(1)})
        self.assertIsNone(refusal(self, BadTimetable, lambda: one | Timetable({"d": Job(1), "e": Job(1)})).part)
        self.assertEqual(len(one | Timetable({"d": Job(1)})), 4)

    def test_product_too_large(self):
        one = Timetable({"a": Job(10), "b": Job(10), "c": Job(10)})
        self.assertEqual(len(one | Timetable({"d": Job(2)})), 4)
        self.assertIsNone(refusal(self, BadTimetable, lambda: one | Timetable({"d": Job(3)})).part)
        two = Timetable({"a": Job(12), "b": Job(12)})
        self.assertIsNone(refusal(self, BadTimetable, lambda: two | Timetable({"c": Job(7), "d": Job(2)})).part)


class Shifting(unittest.TestCase):
    def test_all_jobs_by_one_number(self):
        table = Timetable({"mail": Job(4, 2, start=3, cost=5), "sync": Job(6, start=2), "log": Job(1)})
        for number in [0, 1, 2, 3, 4, 5, 6, 7, 12, 100, 10 ** 20]:
            moved = table >> number
            self.assertEqual(moved.names, ["mail", "sync", "log"])
            self.assertEqual(moved["mail"], Job(4, 2, start=(3 + number) % 4, cost=5))
            self.assertEqual(moved["sync"], Job(6, start=(2 + number) % 6))
            self.assertEqual(moved["log"], Job(1))
        self.assertEqual(table >> 12, table)

    def test_what_is_no_number(self):
        for value in NOT_INTEGERS + [-1, -12]:
            refusal(self, BadJob, lambda: Timetable({"mail": Job(4)}) >> value)


if __name__ == "__main__":
    unittest.main()
