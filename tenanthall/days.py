"""DAYS and PERIODS of a CALENDAR, and NOTES of what was measured."""

from tenanthall.kinds import is_from_one, is_tuple_of

CALENDAR = (5, 4)


def is_calendar(thing):
    """Whether any thing is a CALENDAR: ticks of a DAY, days of a PERIOD."""
    return is_tuple_of(thing, 2) and is_from_one(thing[0]) and is_from_one(thing[1])


def day_of(tick, *, calendar=CALENDAR):
    """The DAY of a tick."""
    return tick // calendar[0]


def period_of(day, *, calendar=CALENDAR):
    """The PERIOD of a DAY."""
    return day // calendar[1]


def noted(notes, day, kind, units):
    """NOTES with so many units more of a day and a KIND, none there where this comes to 0."""
    others = [note for note in notes if note[:2] != (day, kind)]
    total = units + sum([note[2] for note in notes if note[:2] == (day, kind)])
    if total == 0:
        return tuple(others)
    return tuple(sorted(others + [(day, kind, total)]))
