"""Whether any thing is a REACH PAPER of PLACES; it seeks nothing but what lacks."""

from tenanthall.errors import NoPaper
from tenanthall.kinds import is_number, is_tuple_of, is_word
from tenanthall.places import due_in, rows_there
from tenanthall.reachpapers import is_due_by


def lets_reach(places, thing, *, rules, tick):
    """How many rows a REACH PAPER has; any other thing is refused."""
    if not isinstance(thing, tuple) or not all([is_reach(part) for part in thing]):
        raise NoPaper("shape", -1)
    for j, reach in enumerate(thing):
        rows = rows_at(places, reach[:3])
        if rows == []:
            raise NoPaper("row", j)
        if not any([is_due_by(row, reach[3], rules=rules, tick=tick) for row in rows]):
            raise NoPaper("rule", j)
        if j > 0 and reach <= thing[j - 1]:
            raise NoPaper("order", j)
    told = {reach[:3]: True for reach in thing}
    for spot in due_in(places, rules=rules, tick=tick):
        if spot not in told:
            raise NoPaper("few", spot)
    return len(thing)


def is_reach(thing):
    """Whether it is (place, table, id, rule) by kind."""
    if not is_tuple_of(thing, 4) or not is_word(thing[1]):
        return False
    return is_number(thing[0]) and is_number(thing[2]) and is_number(thing[3])


def rows_at(places, spot):
    """The ROWS of a table and an id that a place has."""
    place, table, number = spot
    if place >= len(places):
        return []
    word, thing = places[place]
    return [row for its_table, row in rows_there(word, thing) if its_table == table and row[0] == number]
