"""BILL PAPERS: whether LINES SUMMED are the BILLS, or where they are off."""

from tenanthall.bills import bills_until, sums_of
from tenanthall.days import CALENDAR


def bill_paper(notes, lines, until, *, prices, calendar=CALENDAR):
    """A BILL PAPER of NOTES, LINES and until; where several places are off, the least one is told."""
    all_has = sums_of(lines)
    all_due = sums_of(bills_until(notes, until, prices=prices, calendar=calendar))
    for place in sorted(set(list(all_has) + list(all_due))):
        has, due = all_has.get(place, (0, 0)), all_due.get(place, (0, 0))
        if has != due:
            return "off", place, has, due
    return "sums", sum([line[3] for line in lines])
