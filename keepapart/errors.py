"""The errors that the package raises."""


class ApartError(ValueError):
    """Whatever the package refuses."""


class BadJob(ApartError):
    """Numbers that no job can have, or by which no job can be shifted."""


class BadTimetable(ApartError):
    """What is not a timetable; `part` is the name at fault, or None."""

    def __init__(self, part=None):
        super().__init__("not a timetable: 1 to 4 jobs under names, periods with a product of at most 2000")
        self.part = part


class BadName(ApartError):
    """What is not the name of a job of the timetable."""


class BadTime(ApartError):
    """What is not a time."""


class BadShifts(ApartError):
    """What are not shifts of the timetable."""


class BadMeeting(ApartError):
    """What does not have the form of a meeting of the timetable."""


class NothingDone(ApartError):
    """No step is left that could be undone."""


class BadText(ApartError):
    """Text that cannot be read as a timetable; `row` is the index of the line at fault."""

    def __init__(self, row=0):
        super().__init__("not the text of a timetable")
        self.row = row
