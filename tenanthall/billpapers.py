"""BILL PAPERS: whether LINES SUMMED are the BILLS, or where they are off."""

from tenanthall.bills import bills_until, places_off, sum_at, sums_of
from tenanthall.days import CALENDAR


def bill_paper(notes, lines, until, *, prices, calendar=CALENDAR):
    """A BILL PAPER of NOTES, LINES and until; where several places are off, the least one is told."""
    all_has = sums_of(lines)
    all_due = sums_of(bills_until(notes, until, prices=prices, calendar=calendar))
    off = places_off(all_has, all_due)
    if off == []:
        return "sums", sum([line[3] for line in lines])
    return "off", off[0], sum_at(all_has, off[0]), sum_at(all_due, off[0])
