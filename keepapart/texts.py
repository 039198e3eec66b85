"""Timetables as text, with a line for each job."""

from keepapart.common import is_name
from keepapart.errors import BadJob, BadText, BadTimetable
from keepapart.jobs import LONGEST_PERIOD, Job, Timetable, check_timetable

WORDS = 5


def timetable_text(timetable):
    """The text of a timetable."""
    check_timetable(timetable)
    return "".join([line_of(name, timetable[name]) for name in timetable.names])


def line_of(name, job):
    """The line of a job, with its line feed."""
    return f"{name} {job.period} {job.duration} {job.start} {job.cost}\n"


def read_timetable(text):
    """The timetable that a text tells."""
    if not isinstance(text, str):
        raise BadText(0)
    *lines, rest = text.split("\n")
    found = []
    for row, line in enumerate(lines):
        named = read_line(line)
        if named is None:
            raise BadText(row)
        found.append(named)
    if not lines or rest != "":
        raise BadText(len(lines))
    return table_of(found)


def read_line(line):
    """The name and the job that a line tells, or None if the line is not accepted."""
    words = line.split(" ")
    if len(words) != WORDS or not is_name(words[0]):
        return None
    # Where a word is not a number there stands None, which no job takes.
    period, duration, start, cost = [read_number(word) for word in words[1:]]
    try:
        return (words[0], Job(period, duration, start=start, cost=cost))
    except BadJob:
        return None


def read_number(word):
    """The number that a word tells, or None if it is none that a job has."""
    # Compared and not converted, so that no sign, leading zero or other digit is taken.
    for number in range(LONGEST_PERIOD + 1):
        if word == str(number):
            return number
    return None


def table_of(named):
    """The timetable of some names and jobs."""
    jobs = {name: job for name, job in named}
    # In the dict, a name that occurs twice stands once.
    if len(jobs) != len(named):
        raise BadText(0)
    try:
        return Timetable(jobs)
    except BadTimetable:
        raise BadText(0) from None
