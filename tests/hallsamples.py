"""HALLS that several tests share: done STEP by STEP, what is handed in staying as it is."""

import copy

from tenanthall.hallsteps import hall_step
from tenanthall.halls import void_hall
from tests.model import some_job
from tests.samples import refusal

EU, US = "eu", "us"
MUCH, SLOW = ((40, 1), 40), ((1, 1), 2)
HOUSES = (("house", "h", EU, 99), ("house", "k", US, 50), ("house", "m", EU, 9))
OPENED = HOUSES + (("open", "ann", "h", MUCH), ("open", "bob", "h", SLOW))
TICK = ("tick", ())
LARGE = "table dept 9 0\n" + "\n".join(f"{number} {'eu us'.split()[number % 2]} 0 / {number} @dept.{number + 1}" for number in range(9))


def put(name, *worths, land=EU, table="emp"):
    return "job", name, ("put", table, land, worths)


def job(name, *parts):
    return "job", name, parts


def done(steps, hall=None, calendar=(5, 4)):
    """(HALL, all EVENTS) behind STEPS."""
    hall = void_hall() if hall is None else hall
    told = []
    for step in steps:
        ahead = copy.deepcopy((hall, step))
        newer, events = hall_step(hall, step, calendar=calendar)
        assert repr((hall, step)) == repr(ahead)
        assert isinstance(newer, tuple) and isinstance(events, tuple)
        told.extend(events)
        hall = newer
    return hall, tuple(told)


def events_of(steps, last, **more):
    """The EVENTS of one STEP behind others."""
    hall, _ = done(steps, **more)
    return done((last,), hall, **more)[1]


def holding_of(hall, name):
    return dict(hall[4])[name]


def store_of(hall, name):
    return holding_of(hall, name)[1][0]


def house_of(hall, name):
    return dict(hall[3])[name]


def refused(test, error, steps, last, **more):
    """The fields of the error by which the last of STEPS is refused."""
    hall, _ = done(steps, **more)
    ahead = repr(hall)
    fields = refusal(test, error, hall_step, hall, last, **more)
    test.assertEqual(repr(hall), ahead)
    return fields


def some_step(chance, names=("ann", "bob", "cy"), rules=True):
    """Any STEP by kind, most of them such as can be done behind OPENED."""
    name, house = chance.choice(names), chance.choice("hkm")
    word = chance.choice(["job"] * 13 + ["tick"] * 12 + ["move"] * 4 + """house open rule price break fall save restore
        export import correct all""".split())
    if word == "job":
        return word, name, some_job(chance)
    if word == "tick":
        return word, tuple((chance.choice(names), chance.randrange(4)) for _ in range(chance.randrange(4)))
    if word == "all":
        return word, tuple(step for step in [some_step(chance, names, rules) for _ in range(3)] if step[0] != "all")
    if word == "rule" and not rules:
        return TICK
    more = {
        "house": (house, chance.choice((EU, US)), chance.randrange(60)),
        "open": (name, house, chance.choice((SLOW, ((5, 2), 9), ((12, 1), 20)))),
        "rule": (chance.choice((("kept", EU, chance.randrange(1, 4)), ("struck", EU, chance.randrange(3, 9)),
                                ("struck", US, chance.randrange(1, 9)), ("told", chance.choice((EU, US))),
                                ("stay", chance.choice(("aa", EU, US))))),),
        "price": ((("room", ((0, 2), (4, 5))), ("steps", ((0, chance.randrange(4)), (9, 10)))),),
        "move": (name, house), "break": (name,), "fall": (house,), "save": (name,), "restore": (name,), "export": (name,),
        "import": (name, chance.choice(("", "table emp 9 1\n0 eu 0 / 7 @emp.4\n4 us 3 / @emp.0 @dept.1", "x", LARGE))),
        "correct": (name, (chance.randrange(4), chance.choice(("letters", "room", "steps")), chance.choice((-2, -1, 1, 4)))),
    }
    return (word,) + more[word]
