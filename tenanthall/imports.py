"""IMPORTS: ROWS of one STORE brought into another one, with new ids."""

from tenanthall.errors import NoHall
from tenanthall.kinds import is_link
from tenanthall.readings import read_store
from tenanthall.rules import strays
from tenanthall.stores import indexes_of, next_of, placed_rows, rows_of, tables_of_either


def newer_ids(store, parted):
    """A dict of the ids that ROWS of PARTED get in a STORE, by their SPOTS."""
    newer = {}
    for table, _, rows, _ in parted:
        after = next_of(store, table)
        for k, row in enumerate(rows):
            newer[(table, row[0])] = after + k
    return newer


def brought_value(value, newer):
    """A VALUE as it is IMPORTED: of a LINK one to the newer id, None where it is LOOSE."""
    if not is_link(value):
        return value
    spot = value[1:]
    return ("link", spot[0], newer[spot]) if spot in newer else None


def brought_rows(parted, table, newer, tick):
    """The ROWS of a table of PARTED as they are IMPORTED at a tick."""
    brought = []
    for number, land, _, worths in rows_of(parted, table):
        brought.append((newer[(table, number)], land, tick, tuple([brought_value(worth, newer) for worth in worths])))
    return tuple(brought)


def loose_links(parted, newer):
    """(table, id, k) of each LOOSE LINK of PARTED, rising."""
    return tuple([(table, row[0], k) for table, row in placed_rows(parted) for k, worth in enumerate(row[3])
                  if is_link(worth) and worth[1:] not in newer])


def brought_table(store, parted, table, brought):
    """A table of either STORE, with the ROWS IMPORTED behind its own."""
    after = next_of(store, table) + len(brought)
    indexes = sorted(set(indexes_of(store, table) + indexes_of(parted, table)))
    return table, after, rows_of(store, table) + brought, tuple(indexes)


def brought_store(store, parted, newer, tick):
    """The STORE behind an IMPORT of PARTED at a tick, by the ids that its ROWS get."""
    tables = []
    for table in tables_of_either(store, parted):
        tables.append(brought_table(store, parted, table, brought_rows(parted, table, newer, tick)))
    return tuple(tables)


def imported(store, parted, *, tick, land, rules=(), strict=False):
    """(STORE, pairs, loose): PARTED IMPORTED into a STORE of a HOUSE of a land."""
    spots = strays(parted, rules=rules, land=land)
    if spots != ():
        raise NoHall("stay", spots)
    newer = newer_ids(store, parted)
    loose = loose_links(parted, newer)
    if strict is True and loose != ():
        raise NoHall("link", loose[0][:2])
    pairs = [spot + (number,) for spot, number in newer.items()]
    return brought_store(store, parted, newer, tick), tuple(pairs), loose


def imported_text(store, text, *, tick, land, rules=(), strict=False):
    """As imported, of any text that writes PARTED."""
    return imported(store, read_store(text), tick=tick, land=land, rules=rules, strict=strict)
