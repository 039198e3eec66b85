"""A desk at which the jobs of a timetable are shifted step by step."""

from keepapart.common import is_between
from keepapart.errors import BadJob, BadName, NothingDone
from keepapart.jobs import check_timetable, shift_cost, shifted


class Desk:
    """A timetable, shifts of it, and the steps that led to them."""

    def __init__(self, timetable):
        check_timetable(timetable)
        self._timetable = timetable
        self._shifts = (0,) * len(timetable)
        # For each step the name of its job, and the shifts before it.
        self._steps = []

    @property
    def now(self):
        """The shifts."""
        return self._shifts

    @property
    def table(self):
        """The shifted timetable."""
        return shifted(self._timetable, self._shifts)

    @property
    def spent(self):
        """The cost of the shifts."""
        return shift_cost(self._timetable, self._shifts)

    def move(self, name, number):
        """Shift a job by a number, and return whether the shifted timetable is free then."""
        if not is_between(number, 1, self._timetable[name].period - 1):
            raise BadJob("a step is an integer from 1 to the period less 1")
        self._steps.append((name, self._shifts))
        self._shifts = moved(self._timetable, self._shifts, name, number)
        return bool(self)

    def undo(self):
        """Take back the last step, and return the name of its job."""
        if not self._steps:
            raise NothingDone("no step is left")
        name, self._shifts = self._steps.pop()
        return name

    def cures(self):
        """Yield all pairs (name, number) with which `move` would return True."""
        # The desk may be moved while the pairs are requested.
        shifts = self._shifts
        for name in self._timetable.names:
            for number in range(1, self._timetable[name].period):
                if bool(shifted(self._timetable, moved(self._timetable, shifts, name, number))):
                    yield (name, number)

    def __contains__(self, x):
        return self[x] != 0

    def __getitem__(self, at):
        if at not in self._timetable:
            raise BadName("not the name of a job of the timetable")
        return self._shifts[self._timetable.names.index(at)]

    # Without this, Python would iterate by asking for the shifts at 0, 1 and so on.
    def __iter__(self):
        raise TypeError("a desk is not iterated over: take its shifts")

    def __len__(self):
        return len([shift for shift in self._shifts if shift != 0])

    def __bool__(self):
        return bool(self.table)


def moved(timetable, shifts, name, number):
    """The shifts with a number added to that of one job."""
    return tuple([(shift + number) % timetable[each].period if each == name else shift
                  for each, shift in zip(timetable.names, shifts)])
