"""BACKUPS: STORES kept as they were at a tick, struck meanwhile, and RESTORED."""

from tenanthall.errors import NoHall
from tenanthall.rules import kept_rows, store_struck, strays
from tenanthall.stores import indexes_of, next_of, rows_of, spotted_rows, tables_of_either


def backup_of(store, *, tick):
    """The BACKUP of a STORE at a tick."""
    return tick, store


def backup_struck(backup, *, tick, rules=()):
    """A BACKUP STRUCK at a tick; its own tick stays."""
    return backup[0], store_struck(backup[1], rules=rules, tick=tick)


def restored(store, backup, *, tick, land, rules=()):
    """The STORE with a BACKUP RESTORED into it, in a HOUSE of a land."""
    saved = backup[1]
    now, then = spotted_rows(store), spotted_rows(saved)
    kept = [spot for spot in kept_rows(store, rules=rules, tick=tick) if then.get(spot) != now[spot]]
    if kept != []:
        raise NoHall("kept", tuple(kept))
    spots = strays(saved, rules=rules, land=land)
    if spots != ():
        raise NoHall("stay", spots)
    tables = []
    for table in tables_of_either(store, saved):
        after = max(next_of(store, table), next_of(saved, table))
        tables.append((table, after, rows_of(saved, table), indexes_of(saved, table)))
    return tuple(tables)
