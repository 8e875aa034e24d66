"""HOUSES: a land, a room, and the guests whose most it can always give."""

from tenanthall.errors import NoHall, NoTenant
from tenanthall.kinds import are_rising, is_number, is_tuple_of, is_word
from tenanthall.tokens import is_share


def is_guest(thing):
    """Whether it is a pair of a TENANT and a SHARE."""
    return is_tuple_of(thing, 2) and is_word(thing[0]) and is_share(thing[1])


def are_guests(thing):
    """Whether it is a rising tuple of guests, TENANTS unlike."""
    if not isinstance(thing, tuple) or not all([is_guest(part) for part in thing]):
        return False
    return are_rising([guest[0] for guest in thing])


def room_taken(guests):
    """All the most of guests together."""
    return sum([share[1] for _, share in guests])


def is_house(thing):
    """Whether any thing is a HOUSE."""
    if not is_tuple_of(thing, 3) or not is_word(thing[0]) or not is_number(thing[1]):
        return False
    return are_guests(thing[2]) and room_taken(thing[2]) <= thing[1]


def admitted(house, name, share):
    """A HOUSE with one guest more."""
    land, room, guests = house
    if name in dict(guests):
        raise NoHall("there", name)
    more = room_taken(guests) + share[1] - room
    if more > 0:
        raise NoHall("room", more)
    return land, room, tuple(sorted(guests + ((name, share),)))


def left(house, name):
    """A HOUSE without a guest, any thing."""
    land, room, guests = house
    others = tuple([guest for guest in guests if guest[0] != name])
    if len(others) == len(guests):
        raise NoTenant(name)
    return land, room, others
