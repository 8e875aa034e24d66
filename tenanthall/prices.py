"""PRICES: what units of each KIND cost, tier by tier."""

from tenanthall.kinds import are_rising, is_number, is_tuple_of

KINDS = ("letters", "room", "steps")
MOST_TIERS = 4


def is_kind(thing):
    """Whether it is a KIND."""
    return thing in KINDS


def is_tier(thing):
    """Whether it is a pair of NUMBERS: from, coins."""
    return is_tuple_of(thing, 2) and is_number(thing[0]) and is_number(thing[1])


def are_tiers(thing):
    """Whether it is TIERS."""
    if not isinstance(thing, tuple) or not 1 <= len(thing) <= MOST_TIERS or not all([is_tier(part) for part in thing]):
        return False
    return thing[0][0] == 0 and are_rising([tier[0] for tier in thing])


def is_price(thing):
    """Whether it is a pair of a KIND and TIERS."""
    return is_tuple_of(thing, 2) and is_kind(thing[0]) and are_tiers(thing[1])


def is_prices(thing):
    """Whether any thing is PRICES."""
    if not isinstance(thing, tuple) or not all([is_price(part) for part in thing]):
        return False
    return are_rising([price[0] for price in thing])


def tiers_of(prices, kind):
    """The TIERS of a KIND, () where PRICES have none."""
    return dict(prices).get(kind, ())


def cost(tiers, units, *, ahead=0):
    """The COST of units, so many being ahead of them; nothing by no TIERS."""
    coins = 0
    for k, (start, each) in enumerate(tiers):
        end = ahead + units
        if k + 1 < len(tiers):
            end = min(end, tiers[k + 1][0])
        coins += each * max(0, end - max(start, ahead))
    return coins
