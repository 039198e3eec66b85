import unittest

from account import NOT_INTEGERS, all_jobs, refusal, times_of
from keepapart.errors import BadJob, BadTime
from keepapart.jobs import Job


def four(job):
    return (job.period, job.duration, job.start, job.cost)


class Numbers(unittest.TestCase):
    def test_defaults(self):
        self.assertEqual(four(Job(5)), (5, 1, 0, 1))
        self.assertEqual(four(Job(5, 2)), (5, 2, 0, 1))
        self.assertEqual(four(Job(period=5, duration=2, cost=3, start=4)), (5, 2, 4, 3))

    def test_start_and_cost_are_keyword_only(self):
        with self.assertRaises(TypeError):
            Job(5, 2, 1)

    def test_periods(self):
        for period in range(1, 13):
            self.assertEqual(Job(period).period, period)
        for period in [-12, -1, 0, 13, 14, 10 ** 30]:
            refusal(self, BadJob, Job, period)

    def test_durations(self):
        for period in range(1, 13):
            for duration in range(1, period + 1):
                self.assertEqual(four(Job(period, duration)), (period, duration, 0, 1))
            for duration in [-period, -1, 0, period + 1, 10 ** 30]:
                refusal(self, BadJob, Job, period, duration)

    def test_starts(self):
        for period in range(1, 13):
            for start in range(period):
                self.assertEqual(four(Job(period, start=start)), (period, 1, start, 1))
            for start in [-period, -1, period, period + 1, 10 ** 30]:
                refusal(self, BadJob, Job, period, start=start)

    def test_costs(self):
        for cost in range(1, 10):
            self.assertEqual(four(Job(12, cost=cost)), (12, 1, 0, cost))
        for cost in [-9, -1, 0, 10, 11, 10 ** 30]:
            refusal(self, BadJob, Job, 12, cost=cost)

    def test_what_is_no_integer(self):
        for value in NOT_INTEGERS:
            refusal(self, BadJob, Job, value)
            refusal(self, BadJob, Job, 4, value)
            refusal(self, BadJob, Job, 4, start=value)
            refusal(self, BadJob, Job, 4, cost=value)
            refusal(self, BadJob, Job, value, value, start=value, cost=value)

    def test_two_that_do_not_go_together(self):
        refusal(self, BadJob, Job, "4", 2, start=1)
        refusal(self, BadJob, Job, 4, "2", start=9, cost=99)
        refusal(self, BadJob, Job, 4, 4, start=4)

    def test_jobs_never_change(self):
        job = Job(6, 2, start=3, cost=4)
        for name in ["period", "duration", "start", "cost"]:
            with self.assertRaises(AttributeError):
                setattr(job, name, 1)
        self.assertEqual(four(job >> 1), (6, 2, 4, 4))
        refusal(self, BadJob, lambda: job >> -1)
        self.assertEqual(four(job), (6, 2, 3, 4))


class Equality(unittest.TestCase):
    def test_all_four_count(self):
        self.assertEqual(Job(6, 2, start=3, cost=4), Job(6, 2, start=3, cost=4))
        self.assertFalse(Job(6, 2, start=3, cost=4) != Job(6, 2, start=3, cost=4))
        others = [Job(7, 2, start=3, cost=4), Job(6, 3, start=3, cost=4), Job(6, 2, start=2, cost=4),
                  Job(6, 2, start=3, cost=5)]
        for other in others:
            self.assertFalse(Job(6, 2, start=3, cost=4) == other)
            self.assertTrue(Job(6, 2, start=3, cost=4) != other)

    def test_other_kinds(self):
        for other in [None, 4, "mail", (4, 1, 0, 1), [4, 1, 0, 1], {}]:
            self.assertFalse(Job(4) == other)
            self.assertTrue(Job(4) != other)


class Shifting(unittest.TestCase):
    def test_start_goes_round(self):
        for period in range(1, 13):
            for start in range(period):
                for number in [0, 1, 2, period - 1, period, period + 1, 5 * period + 3, 10 ** 20]:
                    job = Job(period, period, start=start, cost=7) >> number
                    self.assertEqual(four(job), (period, period, divmod(start + number, period)[1], 7))
                    self.assertIsInstance(job, Job)

    def test_same_as_shift_by_one_again_and_again(self):
        job = Job(5, 3, start=4)
        for number in range(12):
            self.assertEqual(Job(5, 3, start=4) >> number, job)
            job = job >> 1

    def test_what_is_no_number(self):
        for value in NOT_INTEGERS + [-1, -5, -10 ** 20]:
            refusal(self, BadJob, lambda: Job(4) >> value)


class Running(unittest.TestCase):
    def test_time_by_time(self):
        for period, duration, start in all_jobs(12):
            job = Job(period, duration, start=start)
            found = {time for time in range(4 * period) if time in job}
            self.assertEqual(found, times_of(period, duration, start, 4 * period), (period, duration, start))

    def test_far_away(self):
        self.assertIn(10 ** 30, Job(10))
        self.assertNotIn(10 ** 30 + 1, Job(10))
        self.assertIn(10 ** 30 + 1, Job(10, 2))
        self.assertNotIn(10 ** 30 - 1, Job(10, 2))

    def test_run_before_the_first_start_reaches_beyond_zero(self):
        job = Job(4, 2, start=3)
        self.assertEqual([time for time in range(9) if time in job], [0, 3, 4, 7, 8])

    def test_result_is_a_truth_value(self):
        self.assertIs(Job(4).__contains__(0), True)
        self.assertIs(Job(4).__contains__(1), False)

    def test_what_is_no_time(self):
        for value in NOT_INTEGERS + [-1, -4, -10 ** 20]:
            refusal(self, BadTime, lambda: value in Job(4))
            refusal(self, BadTime, lambda: value not in Job(4))


class LengthAndDaily(unittest.TestCase):
    def test_length_is_the_duration(self):
        for period, duration, start in all_jobs(12):
            self.assertEqual(len(Job(period, duration, start=start)), duration)

    def test_daily(self):
        for duration in range(1, 13):
            self.assertEqual(Job.daily(duration), Job(12, duration, start=0, cost=1))
            self.assertEqual(four(Job.daily(duration)), (12, duration, 0, 1))
        self.assertEqual(Job.daily(duration=3), Job(12, 3))

    def test_daily_refuses(self):
        for value in NOT_INTEGERS + [-1, 0, 13, 100]:
            refusal(self, BadJob, Job.daily, value)


if __name__ == "__main__":
    unittest.main()
