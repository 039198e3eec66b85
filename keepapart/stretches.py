"""How many jobs run over the cycle of a timetable, and where there is room for one more."""

from math import lcm

from keepapart.jobs import Job, check_timetable
from keepapart.meeting import first_common_time


def cycle(timetable):
    """The number of times after which everything repeats."""
    check_timetable(timetable)
    found = 1
    for name in timetable.names:
        found = lcm(found, timetable[name].period)
    return found


def loads_of(timetable):
    """The number of jobs that run, for each time of the cycle."""
    return [len(timetable(time)) for time in range(cycle(timetable))]


def longest(timetable):
    """The longest stretch, the first one of these, or None."""
    found = list(stretches(timetable))
    # Of equal ones, max gives back the first one.
    return max(found, key=lambda stretch: stretch[1], default=None)


def stretches(timetable):
    """Yield all stretches, pairs (time, length) of times without a job, ordered by their times."""
    loads = loads_of(timetable)
    for time, load in enumerate(loads):
        # Before time 0 stands index -1, which is the last time of the cycle.
        if load == 0 and loads[time - 1] > 0:
            yield (time, idle_length(loads, time))


def idle_length(loads, time):
    """The number of times without a job from a time on, also beyond the end of the cycle."""
    length = 0
    while loads[(time + length) % len(loads)] == 0:
        length += 1
    return length


def peak(timetable):
    """The greatest load, and the first time at which it occurs."""
    loads = loads_of(timetable)
    greatest = max(loads)
    return (greatest, loads.index(greatest))


def room(timetable, period, duration):
    """For each start of a further job, its conflict with the timetable, or None."""
    check_timetable(timetable)
    job = Job(period, duration)
    return [conflict(timetable, job >> start) for start in range(period)]


def conflict(timetable, job):
    """The name of the first job that is not apart from this one, and when both run first; or None."""
    for name in timetable.names:
        time = first_common_time(timetable[name], job)
        if time is not None:
            return (name, time)
    return None
