"""LIVES of TENANTS: QUEUES of JOBS, paid by TOKENS and DONE in order."""

from tenanthall.jobs import done_job
from tenanthall.measures import measure_of
from tenanthall.tokens import NOUGHT, paid


def life_of(store):
    """The LIFE of a STORE at the beginning."""
    return store, (), NOUGHT, None, 0


def handed_in(life, job):
    """A LIFE with a JOB HANDED IN."""
    store, queue, tokens, owed, after = life
    return store, queue + ((after, job),), tokens, owed, after + 1


def sliced(life, many, *, tick, land, rules=()):
    """(LIFE, given, dones): a SLICE of many, or None for all, GIVEN to a LIFE at a tick."""
    given = 0
    dones = []
    while life[1] != ():
        most = None if many is None else many - given
        life, more, done = first_sliced(life, most, tick=tick, land=land, rules=rules)
        given += more
        if done is None:
            break
        dones.append(done)
    return life, given, tuple(dones)


def first_sliced(life, many, *, tick, land, rules):
    """As sliced, but of the first JOB alone; what is told last is (number, tick, told), None where it isn't DONE."""
    store, queue, tokens, owed, after = life
    number, job = queue[0]
    if owed is None:
        owed = measure_of(store, job)
    tokens, given = paid(tokens, owed if many is None else min(owed, many))
    if given < owed:
        return (store, queue, tokens, owed - given, after), given, None
    store, told = done_job(store, job, tick=tick, land=land, rules=rules)
    return (store, queue[1:], tokens, None, after), given, (number, tick, told)
