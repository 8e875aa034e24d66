"""Whether any thing is a LOOK PAPER of an ASK; it seeks nothing but what lacks."""

from tenanthall.conds import meeting, meets
from tenanthall.errors import NoPaper
from tenanthall.kinds import are_indexes, is_number, is_tuple_of
from tenanthall.measures import conds_of
from tenanthall.stores import indexes_of, row_of


def lets_look(store, ask, thing):
    """How many ROWS MEET all CONDS of an ASK, by a LOOK PAPER; any other thing is refused."""
    if not is_look(thing):
        raise NoPaper("shape", -1)
    by, ids = thing
    table, conds = ask[1], conds_of(ask)
    if by is not None and not is_indexed(by, conds, indexes_of(store, table)):
        raise NoPaper("by", -1)
    looked_by = () if by is None else (conds[by],)
    many = 0
    for i, number in enumerate(ids):
        row = row_of(store, table, number)
        if row is None:
            raise NoPaper("row", i)
        if not meets(row, looked_by):
            raise NoPaper("looked", i)
        many += 1 if meets(row, conds) else 0
    told = {number: True for number in ids}
    for number in meeting(store, table, looked_by):
        if number not in told:
            raise NoPaper("lacks", number)
    return many


def is_look(thing):
    """Whether it is a pair of None or a NUMBER, and a rising tuple of NUMBERS."""
    # Indexes are such a tuple, too.
    return is_tuple_of(thing, 2) and (thing[0] is None or is_number(thing[0])) and are_indexes(thing[1])


def is_indexed(by, conds, indexes):
    """Whether there is a COND "=" of this number, of a worth by which there is an index."""
    return by < len(conds) and conds[by][1] == "=" and conds[by][0] in indexes
