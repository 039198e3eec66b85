"""When two jobs of a timetable meet, and what shows that they do or never do."""

from math import lcm

from keepapart.common import is_at_least
from keepapart.errors import BadMeeting, BadName
from keepapart.jobs import are_jobs_apart, check_timetable, distance_within, is_shift, keep_apart


def first_meeting(timetable, first, second):
    """The first time at which both jobs run, or None."""
    one, other = two_jobs(timetable, first, second)
    return first_common_time(one, other)


def first_common_time(one, other):
    """The first time at which both of two jobs run, or None."""
    for time in range(lcm(one.period, other.period)):
        if time in one and time in other:
            return time
    return None


def are_apart(timetable, first, second):
    """Whether two jobs never run at the same time."""
    one, other = two_jobs(timetable, first, second)
    return are_jobs_apart(one, other)


def is_reason(timetable, first, second, pair):
    """Whether a divisor and a distance show that two jobs are apart."""
    one, other = two_jobs(timetable, first, second)
    divisor, distance = pair
    if divisor < 1 or one.period % divisor != 0 or other.period % divisor != 0:
        return False
    return distance == distance_within(one, other, divisor) and keep_apart(one, other, divisor)


def two_jobs(timetable, first, second):
    """Two different jobs of a timetable, by their names."""
    check_timetable(timetable)
    one, other = timetable[first], timetable[second]
    if first == second:
        raise BadName("two names of different jobs are needed")
    return one, other


def is_meeting(timetable, found):
    """Whether both jobs of a tuple run at its time if they are shifted by its shifts."""
    check_timetable(timetable)
    check_meeting(timetable, found)
    first, second, one, other, time = found
    return time in (timetable[first] >> one) and time in (timetable[second] >> other)


def check_meeting(timetable, found):
    """Raise BadMeeting unless this has the form of a meeting of the timetable."""
    if not isinstance(found, tuple) or len(found) != 5:
        raise BadMeeting("a meeting is a tuple of two names, two shifts and a time")
    first, second, one, other, time = found
    if first not in timetable or second not in timetable:
        raise BadMeeting("a meeting begins with the names of two jobs of the timetable")
    names = timetable.names
    if names.index(first) >= names.index(second):
        raise BadMeeting("the two jobs are different ones, the earlier one first")
    if not is_shift(timetable[first], one) or not is_shift(timetable[second], other):
        raise BadMeeting("a shift is an integer from 0 to the period less 1")
    if not is_at_least(time, 0):
        raise BadMeeting("a time is an integer of at least 0")
