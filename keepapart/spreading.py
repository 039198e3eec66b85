"""The cheapest shifts with which a timetable is free, and what shows that no others are cheaper."""

from math import gcd

from keepapart.common import all_pairs
from keepapart.jobs import check_timetable, distance_within, shift_cost, shifted
from keepapart.meeting import first_common_time, is_meeting, is_reason


class Spread:
    """Shifts with which a timetable is free, reasons for it, and meetings for all shifts that cost less."""

    def __init__(self, shifts, reasons, meetings):
        self.shifts = shifts
        self.reasons = {pair: reasons[pair] for pair in reasons}
        self.meetings = list(meetings)

    def __eq__(self, other):
        return (isinstance(other, Spread) and self.shifts == other.shifts and self.reasons == other.reasons
                and self.meetings == other.meetings)

    def shows(self, timetable):
        """Whether these are cheapest shifts of the timetable, as the reasons and the meetings show."""
        check_timetable(timetable)
        cheaper = cheaper_shifts(timetable, self.shifts)
        return (are_reasons(shifted(timetable, self.shifts), self.reasons)
                and are_ruled_out(timetable, cheaper, self.meetings))


class NoSpread:
    """Meetings for all shifts: a timetable is free with none of them."""

    def __init__(self, meetings):
        self.meetings = list(meetings)

    def __eq__(self, other):
        return isinstance(other, NoSpread) and self.meetings == other.meetings

    def shows(self, timetable):
        """Whether the timetable is free with no shifts, as the meetings show."""
        check_timetable(timetable)
        return are_ruled_out(timetable, all_shifts(timetable), self.meetings)


def cheapest(timetable):
    """The first of the cheapest shifts with which a timetable is free, as a Spread; or a NoSpread."""
    free = free_shifts(timetable)
    if not free:
        return NoSpread(meetings_against(timetable, all_shifts(timetable)))
    # Of equal ones, min gives back the first one.
    shifts = min(free, key=lambda given: shift_cost(timetable, given))
    reasons = reasons_in(shifted(timetable, shifts))
    return Spread(shifts, reasons, meetings_against(timetable, cheaper_shifts(timetable, shifts)))


def free_shifts(timetable):
    """All shifts with which a timetable is free, in their order."""
    check_timetable(timetable)
    times = meeting_times(timetable)
    return [shifts for shifts in all_shifts(timetable) if not parts_among(timetable, shifts, times)]


def all_shifts(timetable):
    """All shifts of a timetable, in their order."""
    found = [()]
    for name in timetable.names:
        found = [(*shifts, shift) for shifts in found for shift in range(timetable[name].period)]
    return found


def cheaper_shifts(timetable, limit):
    """All shifts that cost less than the given ones."""
    cost = shift_cost(timetable, limit)
    return [shifts for shifts in all_shifts(timetable) if shift_cost(timetable, shifts) < cost]


def reasons_in(timetable):
    """A reason for each pair of jobs of a free timetable."""
    return {(first, second): widest_reason(timetable[first], timetable[second])
            for first, second in all_pairs(timetable.names)}


def widest_reason(one, other):
    """The reason with the greatest common divisor, which is there for any two jobs that are apart."""
    divisor = gcd(one.period, other.period)
    return (divisor, distance_within(one, other, divisor))


def are_reasons(timetable, reasons):
    """Whether there is a reason for each pair of jobs."""
    return all([is_reason(timetable, first, second, reasons[(first, second)])
                for first, second in all_pairs(timetable.names)])


def meeting_times(timetable):
    """The first time at which two jobs meet, for all parts (first, second, one, other) that are met."""
    found = {}
    for first, second in all_pairs(timetable.names):
        for one in range(timetable[first].period):
            for other in range(timetable[second].period):
                time = first_common_time(timetable[first] >> one, timetable[second] >> other)
                if time is not None:
                    found[(first, second, one, other)] = time
    return found


def parts_among(timetable, shifts, met):
    """Those parts of shifts, two jobs with a shift of each, that are keys of the dict `met`."""
    moves = list(zip(timetable.names, shifts))
    parts = [(first, second, one, other) for (first, one), (second, other) in all_pairs(moves)]
    return [part for part in parts if part in met]


def meetings_against(timetable, candidates):
    """A meeting that applies, for all of some shifts with which the timetable is not free."""
    times = meeting_times(timetable)
    # A dict, because one meeting applies to many shifts and is needed once.
    found = {}
    for shifts in candidates:
        part = parts_among(timetable, shifts, times)[0]
        found[part] = times[part]
    return [(*part, found[part]) for part in found]


def are_ruled_out(timetable, candidates, meetings):
    """Whether all of these are meetings, and for all of some shifts there is one that applies."""
    if not all([is_meeting(timetable, found) for found in meetings]):
        return False
    met = {found[:4]: True for found in meetings}
    return all([len(parts_among(timetable, shifts, met)) > 0 for shifts in candidates])
