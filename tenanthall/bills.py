"""BILLS of days by NOTES, and LINES SUMMED."""

from tenanthall.days import CALENDAR, period_of
from tenanthall.prices import cost, tiers_of


def units_on(notes, day, kind):
    """How many units of a KIND are NOTED of a day."""
    return sum([note[2] for note in notes if note[:2] == (day, kind)])


def units_ahead(notes, day, kind, calendar):
    """How many units of a KIND the days ahead have in a day's PERIOD."""
    period = period_of(day, calendar=calendar)
    return sum([units for earlier, its_kind, units in notes
                if its_kind == kind and earlier < day and period_of(earlier, calendar=calendar) == period])


def coins_on(notes, day, kind, *, prices, calendar):
    """The coins of a day's LINE of a KIND, 0 where there is none."""
    ahead = units_ahead(notes, day, kind, calendar)
    return cost(tiers_of(prices, kind), units_on(notes, day, kind), ahead=ahead)


def bill_of(notes, day, *, prices, calendar=CALENDAR):
    """The BILL of a day."""
    return tuple([(day, kind, units, coins_on(notes, day, kind, prices=prices, calendar=calendar))
                  for noted_day, kind, units in notes if noted_day == day])


def bills_until(notes, until, *, prices, calendar=CALENDAR):
    """The LINES of the BILLS of all days below until, in order."""
    lines = []
    # Days without units have no LINES, and until may be far behind the last day.
    for day in sorted({note[0] for note in notes if note[0] < until}):
        lines.extend(bill_of(notes, day, prices=prices, calendar=calendar))
    return tuple(lines)


def sums_of(lines):
    """A dict of (units, coins) of LINES, added, by (day, KIND); those left out where both come to 0."""
    sums = {}
    for day, kind, units, coins in lines:
        had = sums.get((day, kind), (0, 0))
        sums[(day, kind)] = (had[0] + units, had[1] + coins)
    return {place: sums[place] for place in sorted(sums) if sums[place] != (0, 0)}


def sum_at(sums, place):
    """(units, coins) of a (day, KIND), (0, 0) where there is nothing."""
    return sums.get(place, (0, 0))


def places_off(sums, others):
    """The (day, KIND), rising, where two sums aren't the same."""
    places = sorted(set(list(sums) + list(others)))
    return [place for place in places if sum_at(sums, place) != sum_at(others, place)]


def summed(lines):
    """LINES SUMMED."""
    return tuple([place + total for place, total in sums_of(lines).items()])
