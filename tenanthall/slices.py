"""TICKS of a HOUSE: SLICES are GIVEN to its guests in any order, none of them turned by the others."""

from tenanthall.alone import handed_at, life_grown, life_struck
from tenanthall.errors import NoTenant
from tenanthall.queues import life_of, sliced


def refuse_names(names, house):
    """Refuse the first name, any thing, that is no guest of a HOUSE."""
    guests = [guest[0] for guest in house[2]]
    for name in names:
        if name not in guests:
            raise NoTenant(name)


def in_order(slices, guests):
    """All that is given at a tick to guests, rising: the SLICES, then one of all for each."""
    return list(slices) + [(name, None) for name in guests]


def tick_house(house, lives, slices, *, tick, rules=()):
    """(LIVES, rows, dones) of a TICK of a HOUSE."""
    land, _, guests = house
    refuse_names([part[0] for part in slices], house)
    now = dict(lives)
    for name, share in guests:
        now[name] = life_grown(now[name], share)
    rows = []
    dones = []
    for name, many in in_order(slices, [guest[0] for guest in guests]):
        now[name], given, done = sliced(now[name], many, tick=tick, land=land, rules=rules)
        if given > 0:
            rows.append((name, given))
        dones.extend([(name,) + part for part in done])
    struck = [(name, life_struck(now[name], tick=tick, rules=rules)) for name in sorted(now)]
    return tuple(struck), tuple(rows), tuple(dones)


def run_house(house, stores, handed, *, ticks, orders=(), rules=()):
    """(LIVES, paper, dones) of a RUN of a HOUSE over so many ticks."""
    refuse_names([part[1] for part in handed], house)
    refuse_names([part[0] for slices in orders for part in slices], house)
    lives = tuple([(name, life_of(store)) for name, store in stores])
    paper = []
    dones = []
    for tick in range(ticks):
        lives = tuple([(name, handed_at(life, handed_to(handed, name), tick)) for name, life in lives])
        slices = orders[tick] if tick < len(orders) else ()
        lives, rows, done = tick_house(house, lives, slices, tick=tick, rules=rules)
        paper.extend([(tick,) + row for row in rows])
        dones.extend(done)
    return lives, tuple(paper), tuple(dones)


def handed_to(handed, name):
    """What of HANDED is of a TENANT, as of one alone."""
    return [(tick, job) for tick, guest, job in handed if guest == name]
