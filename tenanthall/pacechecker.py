"""Whether any thing is a PACE PAPER of a HOUSE; it seeks nothing."""

from tenanthall.errors import NoPaper
from tenanthall.kinds import is_from_one, is_number, is_tuple_of, is_word
from tenanthall.tokens import NOUGHT, grown, paid, ratio, wholes


def lets_pace(house, thing, *, ticks):
    """How many STEPS a PACE PAPER over so many ticks has in all; any other thing is refused."""
    if not is_tuple_of_gifts(thing):
        raise NoPaper("shape", -1)
    shares = dict(house[2])
    # Of each guest how often its TOKENS were GROWN, and what it has.
    held = {name: (0, NOUGHT) for name in shares}
    ahead = 0
    for k, (tick, name, many) in enumerate(thing):
        if tick < ahead or tick >= ticks:
            raise NoPaper("tick", k)
        if name not in shares:
            raise NoPaper("name", k)
        times, tokens = held[name]
        tokens = grown_often(tokens, shares[name], tick + 1 - times)
        if many > wholes(tokens):
            raise NoPaper("tokens", k)
        held[name] = (tick + 1, paid(tokens, many)[0])
        ahead = tick
    return sum([gift[2] for gift in thing])


def is_tuple_of_gifts(thing):
    """Whether it is a tuple of triples of a NUMBER, a WORD and a NUMBER from 1 on."""
    return isinstance(thing, tuple) and all([is_gift(part) for part in thing])


def is_gift(thing):
    """Whether it is a triple of a NUMBER, a WORD and a NUMBER from 1 on."""
    return is_tuple_of(thing, 3) and is_number(thing[0]) and is_word(thing[1]) and is_from_one(thing[2])


def grown_often(tokens, share, times):
    """TOKENS, no more than its most, GROWN by a SHARE so many times."""
    # What was cut off at the most stays there, so once by so many FRACTIONS is the same.
    (over, under), most = share
    return grown(tokens, (ratio(over * times, under), most))
