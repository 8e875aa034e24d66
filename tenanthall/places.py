"""PLACES where ROWS are: STORES, copies, BACKUPS and LOGS; what is DUE there, and STRIKING in all of them."""

from tenanthall.rules import is_due, store_struck
from tenanthall.stores import placed_rows


def logged_rows(log):
    """A list of (table, ROW), one for each "put" of a LOG, whatever it drops later."""
    return [(deed[1], (told, deed[2], tick, deed[3])) for tick, deed, told in log if deed[0] == "put"]


def rows_there(word, thing):
    """A list of (table, ROW), one for each ROW that a place has."""
    return logged_rows(thing) if word == "log" else placed_rows(thing)


def due_in(places, *, rules, tick):
    """(place, table, id) of all that is DUE in PLACES at a tick, rising."""
    due = []
    for place, (word, thing) in enumerate(places):
        rows = rows_there(word, thing)
        due.extend([(place, table, row[0]) for table, row in rows if is_due(row, rules=rules, tick=tick)])
    return tuple(sorted(set(due)))


def places_struck(places, *, rules, tick):
    """PLACES behind STRIKING."""
    gone = {(table, number): True for _, table, number in due_in(places, rules=rules, tick=tick)}
    struck = []
    for word, thing in places:
        if word == "log":
            struck.append((word, tuple([done for done in thing if spot_named(done) not in gone])))
        else:
            struck.append((word, store_struck(thing, rules=rules, tick=tick)))
    return tuple(struck)


def spot_named(done):
    """The SPOT that a DEED of a LOG puts or names, None where it names none."""
    _, deed, told = done
    if deed[0] == "put":
        return deed[1], told
    return None if deed[0] == "index" else deed[1:3]
