"""Whether any thing is a MOVE PAPER of the STORE as it is; it seeks nothing."""

from tenanthall.errors import NoPaper
from tenanthall.kinds import is_deed, is_number, is_row, is_tuple_of, is_value, is_word
from tenanthall.moves import broken_by, led
from tenanthall.stores import spotted_rows


def lets_move(old, thing, *, many, land, rules=()):
    """The word of a MOVE PAPER; any other thing is refused."""
    if not is_moved(thing) and not is_broken(thing):
        raise NoPaper("shape", -1)
    log = thing[-1]
    refuse_log(log)
    breaks = [k for k, (_, deed, told) in enumerate(log) if broken_by(deed, told, land=land, rules=rules) is not None]
    if thing[0] == "broken":
        refuse_breaks(breaks, len(log) - 1)
        return "broken"
    if breaks != []:
        raise NoPaper("breaks", breaks[0])
    copied = thing[1]
    refuse_copied(copied, many, {entry[0]: True for entry in old})
    if led({(table, row[0]): row for _, table, row in copied}, log) != spotted_rows(old):
        raise NoPaper("store", -1)
    return "moved"


def is_moved(thing):
    """Whether it is ("moved", copied, log) by kind."""
    if not is_tuple_of(thing, 3) or thing[0] != "moved" or not is_log(thing[2]):
        return False
    return isinstance(thing[1], tuple) and all([is_copied(part) for part in thing[1]])


def is_broken(thing):
    """Whether it is ("broken", log) by kind."""
    return is_tuple_of(thing, 2) and thing[0] == "broken" and is_log(thing[1])


def is_copied(thing):
    """Whether it is a triple of a tick, a table and a ROW."""
    return is_tuple_of(thing, 3) and is_number(thing[0]) and is_word(thing[1]) and is_row(thing[2])


def is_log(thing):
    """Whether it is a tuple of triples of a NUMBER, a DEED and any thing."""
    return isinstance(thing, tuple) and all([is_logged(part) for part in thing])


def is_logged(thing):
    """Whether it is a triple of a NUMBER, a DEED and any thing."""
    return is_tuple_of(thing, 3) and is_number(thing[0]) and is_deed(thing[1])


def refuse_log(log):
    """Refuse the first row of a log that is of a tick ahead, or told what its DEED never tells."""
    ahead = 0
    for k, (tick, deed, told) in enumerate(log):
        if tick < ahead or not may_tell(deed, told):
            raise NoPaper("log", k)
        ahead = tick


def may_tell(deed, told):
    """Whether what a DEED that isn't refused told is of its kind."""
    if deed[0] == "put":
        return is_number(told)
    if deed[0] in ("set", "add"):
        return is_value(told)
    return told is True


def refuse_breaks(breaks, last):
    """Refuse the places of DEEDS that BREAK where they aren't just the last one of the log."""
    if breaks != [] and breaks[0] != last:
        raise NoPaper("breaks", breaks[0])
    if breaks == []:
        raise NoPaper("breaks", -1)


def refuse_copied(copied, many, tables):
    """Refuse the first row copied that can't have been, table, place, tick and many considered."""
    at_tick = {}
    for j, (tick, table, row) in enumerate(copied):
        if table not in tables or j > 0 and (table, row[0]) <= (copied[j - 1][1], copied[j - 1][2][0]):
            raise NoPaper("row", j)
        if j > 0 and tick < copied[j - 1][0]:
            raise NoPaper("tick", j)
        at_tick[tick] = at_tick.get(tick, 0) + 1
        if at_tick[tick] > many:
            raise NoPaper("many", j)
