"""TOKENS: FRACTIONS, and what a SHARE gives tick by tick."""

from math import gcd

from tenanthall.kinds import is_from_one, is_number, is_tuple_of

NOUGHT = (0, 1)


def is_fraction(thing):
    """Whether any thing is a FRACTION."""
    if not is_tuple_of(thing, 2) or not is_number(thing[0]) or not is_from_one(thing[1]):
        return False
    return gcd(thing[0], thing[1]) == 1


def is_share(thing):
    """Whether any thing is a SHARE."""
    return is_tuple_of(thing, 2) and is_fraction(thing[0]) and is_from_one(thing[1])


def ratio(over, under):
    """The FRACTION that is as great as over by under."""
    common = gcd(over, under)
    return over // common, under // common


def added(one, other):
    """Two FRACTIONS, added."""
    return ratio(one[0] * other[1] + other[0] * one[1], one[1] * other[1])


def is_less(one, other):
    """Whether the one FRACTION is less than the other."""
    return one[0] * other[1] < other[0] * one[1]


def lesser(one, other):
    """The lesser one of two FRACTIONS."""
    over, under = other if is_less(other, one) else one
    return over, under


def wholes(fraction):
    """The greatest NUMBER that isn't above a FRACTION."""
    return fraction[0] // fraction[1]


def grown(tokens, share):
    """TOKENS GROWN by a SHARE."""
    gain, most = share
    return lesser(added(tokens, gain), (most, 1))


def paid(tokens, cost):
    """(tokens, paid): TOKENS PAY of a cost as many whole STEPS as there are."""
    many = min(wholes(tokens), cost)
    return ratio(tokens[0] - many * tokens[1], tokens[1]), many


def pace_of(share, ticks, *, tokens=NOUGHT):
    """How many STEPS are given at each tick where a QUEUE never is void."""
    pace = []
    for _ in range(ticks):
        tokens = grown(tokens, share)
        many = wholes(tokens)
        tokens = paid(tokens, many)[0]
        pace.append(many)
    return tuple(pace)
