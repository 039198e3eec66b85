"""Recurring jobs, and timetables of a few of them."""

from math import gcd

from keepapart.common import all_pairs, is_at_least, is_between, is_name
from keepapart.errors import BadJob, BadName, BadShifts, BadTime, BadTimetable

LONGEST_PERIOD = 12
HIGHEST_COST = 9
MOST_JOBS = 4
LARGEST_PRODUCT = 2000


class Job:
    """A job that runs for some time, once in each period."""

    def __init__(self, period, duration=1, *, start=0, cost=1):
        if not is_between(period, 1, LONGEST_PERIOD):
            raise BadJob("a period is an integer from 1 to 12")
        if not is_between(duration, 1, period):
            raise BadJob("a duration is an integer from 1 to the period")
        if not is_between(start, 0, period - 1):
            raise BadJob("a start is an integer from 0 to the period less 1")
        if not is_between(cost, 1, HIGHEST_COST):
            raise BadJob("a cost is an integer from 1 to 9")
        self._period = period
        self._duration = duration
        self._start = start
        self._cost = cost

    @property
    def period(self):
        """The number of times from one start to the next one."""
        return self._period

    @property
    def duration(self):
        """The number of times that one run takes."""
        return self._duration

    @property
    def start(self):
        """The first start."""
        return self._start

    @property
    def cost(self):
        """The cost of shifting the job by 1."""
        return self._cost

    @classmethod
    def daily(cls, duration):
        """A job with a day of 12 ticks as its period."""
        return cls(12, duration)

    def __eq__(self, other):
        return (isinstance(other, Job) and self._period == other._period and self._duration == other._duration
                and self._start == other._start and self._cost == other._cost)

    def __rshift__(self, other):
        if not is_at_least(other, 0):
            raise BadJob("a job is shifted by an integer of at least 0")
        start = (self._start + other) % self._period
        return Job(self._period, self._duration, start=start, cost=self._cost)

    def __contains__(self, x):
        if not is_at_least(x, 0):
            raise BadTime("a time is an integer of at least 0")
        return (x - self._start) % self._period < self._duration

    def __len__(self):
        # The times of one run, counted from its start.
        return len(list(range(self._duration)))


class Timetable:
    """A few jobs under names, in an order."""

    def __init__(self, jobs):
        check_jobs(jobs)
        self._jobs = {name: jobs[name] for name in jobs}

    @property
    def names(self):
        """The names of the jobs, in order."""
        return list(self._jobs)

    def __getitem__(self, at):
        if at not in self:
            raise BadName("not the name of a job of the timetable")
        return self._jobs[at]

    # Without this, Python would iterate by asking for the jobs at 0, 1 and so on.
    def __iter__(self):
        raise TypeError("a timetable is not iterated over: take its names")

    def __contains__(self, x):
        # Only a string is looked up: other values need not be possible keys of a dict.
        return isinstance(x, str) and x in self._jobs

    def __len__(self):
        return len(self._jobs)

    def __bool__(self):
        jobs = list(self._jobs.values())
        return all([are_jobs_apart(first, second) for first, second in all_pairs(jobs)])

    def __call__(self, time):
        return [name for name, job in self._jobs.items() if time in job]

    def __or__(self, other):
        check_timetable(other)
        jobs = {name: self._jobs[name] for name in self._jobs}
        for name in other.names:
            if name in self:
                raise BadTimetable(name)
            jobs[name] = other[name]
        return Timetable(jobs)

    def __rshift__(self, other):
        return Timetable({name: job >> other for name, job in self._jobs.items()})

    def __eq__(self, other):
        # Dicts are equal in any order of their keys, timetables are not.
        return isinstance(other, Timetable) and list(self._jobs.items()) == list(other._jobs.items())


def check_jobs(jobs):
    """Raise BadTimetable unless this is a dict of jobs that make a timetable."""
    if not isinstance(jobs, dict) or not is_between(len(jobs), 1, MOST_JOBS):
        raise BadTimetable()
    for name, job in jobs.items():
        if not is_name(name) or not isinstance(job, Job):
            raise BadTimetable(name)
    product = 1
    for name in jobs:
        product = product * jobs[name].period
    if product > LARGEST_PRODUCT:
        raise BadTimetable()


def check_timetable(timetable):
    """Raise BadTimetable unless this is a Timetable."""
    if not isinstance(timetable, Timetable):
        raise BadTimetable()


def keep_apart(first, second, divisor):
    """Whether two jobs keep apart within a common divisor of their periods."""
    distance = distance_within(first, second, divisor)
    return first.duration <= distance and distance + second.duration <= divisor


def distance_within(first, second, divisor):
    """How far the second job starts behind the first one, within a divisor."""
    return (second.start - first.start) % divisor


def are_jobs_apart(first, second):
    """Whether two jobs never run at the same time."""
    # If any common divisor keeps them apart, the greatest one does, so no time need be tried.
    return keep_apart(first, second, gcd(first.period, second.period))


def shifted(timetable, shifts):
    """The timetable with each job shifted by its shift."""
    check_timetable(timetable)
    check_shifts(timetable, shifts)
    return Timetable({name: timetable[name] >> shift for name, shift in zip(timetable.names, shifts)})


def shift_cost(timetable, shifts):
    """The cost of shifting each job by its shift."""
    check_timetable(timetable)
    check_shifts(timetable, shifts)
    return sum([timetable[name].cost * shift for name, shift in zip(timetable.names, shifts)])


def check_shifts(timetable, shifts):
    """Raise BadShifts unless these are shifts of the timetable."""
    if not isinstance(shifts, tuple) or len(shifts) != len(timetable):
        raise BadShifts("shifts are a tuple with one integer for each job")
    for name, shift in zip(timetable.names, shifts):
        if not is_shift(timetable[name], shift):
            raise BadShifts("a shift is an integer from 0 to the period less 1")


def is_shift(job, value):
    """Whether a value is a shift of the job."""
    return is_between(value, 0, job.period - 1)
