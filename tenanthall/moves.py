"""MOVES: ROWS copied tick by tick, and a LOG of the DEEDS meanwhile, by which the copy is LED."""

from tenanthall.errors import NoHall
from tenanthall.kinds import is_refusal
from tenanthall.places import places_struck, spot_named
from tenanthall.rules import is_stray, strays
from tenanthall.stores import placed_rows, row_turned, spotted_rows, with_spotted


def begun_move(store, many, *, land, rules=()):
    """The MOVE BEGUN of a STORE to a land, so many ROWS being copied at a tick's end."""
    spots = strays(store, rules=rules, land=land)
    if spots != ():
        raise NoHall("stay", spots)
    firsts = tuple([entry[:2] for entry in store])
    return many, firsts, None, with_spotted(store, {}), ()


def logged(move, deed, answer, *, tick):
    """A MOVE with a DEED DONE, its tick and what it told behind its log."""
    many, firsts, last, copy, log = move
    return many, firsts, last, copy, log + ((tick, deed, answer),)


def rows_left(move, store):
    """A list of (table, ROW), one for each ROW that is LEFT to be copied, by rising SPOTS."""
    firsts, last = move[1:3]
    below = dict(firsts)
    return [(table, row) for table, row in placed_rows(store)
            if row[0] < below.get(table, 0) and (last is None or (table, row[0]) > last)]


def is_left(move, store):
    """Whether something is LEFT to be copied."""
    return rows_left(move, store) != []


def copied_on(move, store):
    """A MOVE COPIED by the STORE: the first of what is LEFT stand in its copy."""
    many, firsts, last, copy, log = move
    rows = spotted_rows(copy)
    for table, row in rows_left(move, store)[:many]:
        last = (table, row[0])
        rows[last] = row
    return many, firsts, last, with_spotted(copy, rows), log


def led(rows, log):
    """A dict of ROWS by their SPOTS, LED by a LOG, DEED by DEED."""
    rows = {spot: rows[spot] for spot in rows}
    for done in log:
        lead_on(rows, done)
    return rows


def lead_on(rows, done):
    """Lead ROWS by their SPOTS on, in place, by a DEED of a LOG."""
    tick, deed, told = done
    word, spot = deed[0], spot_named(done)
    if word == "put":
        rows[spot] = (told, deed[2], tick, deed[3])
    elif word == "drop" and spot in rows:
        del rows[spot]
    elif word in ("set", "add") and spot in rows:
        rows[spot] = row_turned(rows[spot], deed[3], told)


def store_there(move, store):
    """The STORE THERE: the tables of the STORE as they are, and the ROWS LED."""
    copy, log = move[3:]
    return with_spotted(store, led(spotted_rows(copy), log))


def move_struck(move, store, *, tick, rules=()):
    """A MOVE STRUCK, the STORE being as it is ahead of STRIKING."""
    many, firsts, last, copy, log = move
    struck = places_struck((("store", store), ("copy", copy), ("log", log)), rules=rules, tick=tick)
    return many, firsts, last, struck[1][1], struck[2][1]


def broken_by(deed, answer, *, land, rules=()):
    """The SPOT of a ROW put that would STRAY in the land to which a MOVE goes, None where the DEED doesn't BREAK it."""
    if deed[0] != "put" or is_refusal(answer):
        return None
    row = (answer, deed[2], 0, deed[3])
    return (deed[1], answer) if is_stray(row, rules=rules, land=land) else None
