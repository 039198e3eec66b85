"""What the tests share: an account of jobs that does without the package, and ways to ask for errors."""

from itertools import combinations, product
from math import lcm

from keepapart import errors
from keepapart.jobs import Job, Timetable

ERRORS = [errors.BadJob, errors.BadTimetable, errors.BadName, errors.BadTime, errors.BadShifts,
          errors.BadMeeting, errors.NothingDone, errors.BadText]

# No integers at all, for the package.
NOT_INTEGERS = [None, True, False, "1", "", b"1", [], [1], (), (1,), {}, {1: 1}, {1}, object(), int]

# No timetables.
NOT_TABLES = [None, True, 0, "mail 4 2 0 1\n", b"", [], (), {}, {"mail": Job(4), "sync": Job(6)}, Job(4), {"mail"},
              [Timetable({"mail": Job(4)})], object(), Timetable]

# Neither a name nor, with any certainty, a possible key of a dict.
NOT_NAMES = [None, True, False, 0, 1, -1, b"mail", [], ["mail"], ("mail",), {}, {"mail": 1}, {"mail"}, object(),
             str, "", "Mail", "MAIL", "mail ", " mail", "ma il", "mail1", "1", "mail\n", "m_l", "m-l", "m.l",
             "abcdefghi", "a" * 100, "\u00e9", "ma\u00efl", "\u00df", "\u0430", "\uff41", "\u00aa"]


def times_of(period, duration, start, until):
    """The times below `until` at which a job runs, run by run."""
    found = []
    # The run before the first start may reach beyond time 0.
    begin = start - period
    while begin < until:
        found.extend(time for time in range(begin, begin + duration) if 0 <= time < until)
        begin += period
    return set(found)


def all_jobs(most):
    """Period, duration and start of all jobs with periods up to `most`."""
    return [(period, duration, start) for period in range(1, most + 1)
            for duration in range(1, period + 1) for start in range(period)]


def refusal(case, kind, call, *given, **named):
    """The error of a call, after a check that it is of exactly this kind."""
    with case.assertRaises(errors.ApartError) as caught:
        call(*given, **named)
    case.assertIs(type(caught.exception), kind)
    return caught.exception


def job_of(made, cost=1):
    period, duration, start = made
    return Job(period, duration, start=start, cost=cost)


def table_of(*made, names=("zeta", "b", "mail", "a"), costs=(1, 1, 1, 1)):
    """The timetable of some jobs, each a tuple (period, duration, start)."""
    return Timetable({name: job_of(one, cost) for name, one, cost in zip(names, made, costs)})


def random_jobs(luck, most=12, largest=2000):
    """Period, duration and start of 1 to 4 jobs with an allowed product of the periods."""
    while True:
        periods = [luck.randint(1, most) for _ in range(luck.randint(1, 4))]
        size = 1
        for period in periods:
            size *= period
        if size <= largest:
            return [(period, luck.randint(1, max(1, period // 2)), luck.randrange(period)) for period in periods]


def cycle_of(made):
    """The first time above 0 that all periods divide."""
    return lcm(*[period for period, _, _ in made])


def all_shifts_of(made):
    """All shifts of some jobs, as ordered tuples."""
    return list(product(*[range(period) for period, _, _ in made]))


def cost_of(shifts, costs):
    return sum(shift * cost for shift, cost in zip(shifts, costs))


def bits_of(made):
    """For each job and each of its shifts a number with one bit for each time at which it runs."""
    until = cycle_of(made)
    return [[sum(1 << time for time in times_of(period, duration, (start + shift) % period, until))
             for shift in range(period)] for period, duration, start in made]


def free_account(made):
    """All shifts with which no two jobs ever run at once, tried time by time."""
    bits = bits_of(made)
    found = []
    for shifts in all_shifts_of(made):
        rows = [of_job[shift] for of_job, shift in zip(bits, shifts)]
        if not any(one & other for one, other in combinations(rows, 2)):
            found.append(shifts)
    return found


def loads_account(made):
    """The number of jobs that run, for each time of the cycle."""
    until = cycle_of(made)
    rows = [times_of(*one, until) for one in made]
    return [sum(time in row for row in rows) for time in range(until)]
