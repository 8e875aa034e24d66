"""CORRECTIONS: NOTES turned behind their day, and the LINES that follow of it."""

from tenanthall.bills import coins_on, units_on
from tenanthall.days import CALENDAR, noted, period_of
from tenanthall.errors import NoHall
from tenanthall.kinds import is_number, is_tuple_of, is_whole
from tenanthall.prices import is_kind


def is_correction(thing):
    """Whether it is a CORRECTION."""
    if not is_tuple_of(thing, 3) or not is_number(thing[0]) or not is_kind(thing[1]):
        return False
    return is_whole(thing[2]) and thing[2] != 0


def corrected(notes, correction):
    """NOTES with so many units more, or fewer."""
    day, kind, more = correction
    if units_on(notes, day, kind) + more < 0:
        raise NoHall("units", (day, kind))
    return noted(notes, day, kind, more)


def later_days(notes, day, kind, calendar):
    """The later days of a day's PERIOD that have units of a KIND, rising."""
    period = period_of(day, calendar=calendar)
    return [later for later, its_kind, _ in notes
            if its_kind == kind and later > day and period_of(later, calendar=calendar) == period]


def correction_lines(notes, correction, until, *, prices, calendar=CALENDAR):
    """The LINES of a CORRECTION, so many days being billed; NOTES are those ahead of it."""
    day, kind, more = correction
    newer = corrected(notes, correction)
    if day >= until:
        return ()
    lines = []
    for at in [day] + later_days(notes, day, kind, calendar):
        coins = coins_on(newer, at, kind, prices=prices, calendar=calendar)
        coins -= coins_on(notes, at, kind, prices=prices, calendar=calendar)
        if at == day:
            lines.append((day, kind, more, coins))
        elif at < until and coins != 0:
            lines.append((at, kind, 0, coins))
    return tuple(lines)
