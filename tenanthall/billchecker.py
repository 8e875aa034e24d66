"""Whether any thing is a BILL PAPER of NOTES, LINES and until."""

from tenanthall.bills import bills_until, places_off, sum_at, sums_of
from tenanthall.days import CALENDAR
from tenanthall.errors import NoPaper
from tenanthall.kinds import is_number, is_tuple_of, is_whole
from tenanthall.prices import is_kind


def lets_bill(notes, lines, until, thing, *, prices, calendar=CALENDAR):
    """The first word of a BILL PAPER; any other thing is refused."""
    if not is_sums(thing) and not is_off(thing):
        raise NoPaper("shape", -1)
    all_has = sums_of(lines)
    all_due = sums_of(bills_until(notes, until, prices=prices, calendar=calendar))
    if thing[0] == "sums":
        off = places_off(all_has, all_due)
        if off != []:
            raise NoPaper("off", off[0])
        if thing[1] != sum([line[3] for line in lines]):
            raise NoPaper("coins", -1)
        return "sums"
    place, has, due = thing[1:]
    if has != sum_at(all_has, place):
        raise NoPaper("has", -1)
    if due != sum_at(all_due, place):
        raise NoPaper("due", -1)
    if has == due:
        raise NoPaper("same", -1)
    return "off"


def is_sums(thing):
    """Whether it is "sums" and coins by kind."""
    return is_tuple_of(thing, 2) and thing[0] == "sums" and is_whole(thing[1])


def is_off(thing):
    """Whether it is "off", a day and KIND, and two pairs by kind."""
    return is_tuple_of(thing, 4) and thing[0] == "off" and is_place(thing[1]) and are_sums(thing[2:])


def is_place(thing):
    """Whether it is a pair of a day and a KIND."""
    return is_tuple_of(thing, 2) and is_number(thing[0]) and is_kind(thing[1])


def are_sums(things):
    """Whether each is a pair of units and coins, below 0 too."""
    return all([is_tuple_of(part, 2) and is_whole(part[0]) and is_whole(part[1]) for part in things])
