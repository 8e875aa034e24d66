"""A TENANT alone: TICKS of its LIFE, and runs of them."""

from tenanthall.queues import handed_in, life_of, sliced
from tenanthall.rules import store_struck
from tenanthall.tokens import grown


def life_grown(life, share):
    """A LIFE whose TOKENS are GROWN by a SHARE."""
    store, queue, tokens, owed, after = life
    return store, queue, grown(tokens, share), owed, after


def life_struck(life, *, tick, rules):
    """A LIFE whose STORE is STRUCK at a tick."""
    return (store_struck(life[0], rules=rules, tick=tick),) + life[1:]


def tick_begun(life, share, *, tick, land, rules):
    """As tick_alone, but that nothing is STRUCK yet."""
    return sliced(life_grown(life, share), None, tick=tick, land=land, rules=rules)


def tick_alone(life, share, *, tick, land, rules=()):
    """(LIFE, given, dones) of a TICK of a LIFE alone."""
    life, given, dones = tick_begun(life, share, tick=tick, land=land, rules=rules)
    return life_struck(life, tick=tick, rules=rules), given, dones


def handed_at(life, handed, tick):
    """A LIFE with what of HANDED is of a tick HANDED IN."""
    for at, job in [part for part in handed if part[0] == tick]:
        life = handed_in(life, job)
    return life


def run_alone(store, share, handed, *, ticks, land, rules=()):
    """(LIFE, givens, dones) of a RUN ALONE over so many ticks."""
    life = life_of(store)
    givens = []
    dones = []
    for tick in range(ticks):
        life = handed_at(life, handed, tick)
        life, given, done = tick_alone(life, share, tick=tick, land=land, rules=rules)
        givens.append(given)
        dones.extend(done)
    return life, tuple(givens), tuple(dones)
