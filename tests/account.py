"""What the tests share: an account of jobs that does without the package, and ways to ask for errors."""

from keepapart import errors

ERRORS = [errors.BadJob, errors.BadTimetable, errors.BadName, errors.BadTime, errors.BadShifts,
          errors.BadMeeting, errors.NothingDone, errors.BadText]

# No integers at all, for the package.
NOT_INTEGERS = [None, True, False, "1", "", b"1", [], [1], (), (1,), {}, {1: 1}, {1}, object(), int]

# Neither a name nor, with any certainty, a possible key of a dict.
NOT_NAMES = [None, True, False, 0, 1, -1, b"mail", [], ["mail"], ("mail",), {}, {"mail": 1}, {"mail"}, object(),
             str, "", "Mail", "MAIL", "mail ", " mail", "ma il", "mail1", "1", "mail\n", "m_l", "m-l", "m.l",
             "abcdefghi", "a" * 100, "\u00e9", "ma\u00efl", "\u00df", "\u0430", "\uff41", "\u00aa"]


def times_of(period, duration, start, until):
    """The times below `until` at which a job runs, run by run."""
    found = []
    # The run before the first start may reach beyond time 0.
    begin = start - period
    while begin < until:
        found.extend(time for time in range(begin, begin + duration) if 0 <= time < until)
        begin += period
    return set(found)


def all_jobs(most):
    """Period, duration and start of all jobs with periods up to `most`."""
    return [(period, duration, start) for period in range(1, most + 1)
            for duration in range(1, period + 1) for start in range(period)]


def refusal(case, kind, call, *given, **named):
    """The error of a call, after a check that it is of exactly this kind."""
    with case.assertRaises(errors.ApartError) as caught:
        call(*given, **named)
    case.assertIs(type(caught.exception), kind)
    return caught.exception
