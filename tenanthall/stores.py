"""What is told of a STORE: its tables, and their rows, nexts and indexes; and ROWS by their SPOTS."""

from tenanthall.kinds import is_link, is_number


def tables_of(store):
    """The tables of a STORE, rising."""
    return tuple([entry[0] for entry in store])


def tables_of_either(store, other):
    """The tables that either of two STORES has, rising."""
    return tuple(sorted(set(tables_of(store) + tables_of(other))))


def has_table(store, table):
    """Whether a STORE has a table."""
    return table in tables_of(store)


def table_in(store, table):
    """(table, next, rows, indexes) of a table, as of a void one where it isn't there."""
    for entry in store:
        if entry[0] == table:
            return entry
    return (table, 0, (), ())


def rows_of(store, table):
    """The ROWS of a table, () where it isn't there."""
    return table_in(store, table)[2]


def next_of(store, table):
    """The next of a table, 0 where it isn't there."""
    return table_in(store, table)[1]


def indexes_of(store, table):
    """The indexes of a table, () where it isn't there."""
    return table_in(store, table)[3]


def row_of(store, table, id_told):
    """The ROW of a table and an id, any thing; None where there is none."""
    # True would be found as the id 1.
    if not is_number(id_told):
        return None
    for row in rows_of(store, table):
        if row[0] == id_told:
            return row
    return None


def many_rows(store):
    """How many ROWS a STORE has in all."""
    return len(placed_rows(store))


def placed_rows(store):
    """A list of (table, ROW), one for each ROW of a STORE, by rising tables and ids."""
    return [(entry[0], row) for entry in store for row in entry[2]]


def spotted_rows(store):
    """A dict of the ROWS of a STORE by their SPOTS."""
    return {(table, row[0]): row for table, row in placed_rows(store)}


def with_spotted(store, spotted):
    """The tables of a STORE, each with those alone of the spotted ROWS that are its own, by rising id."""
    filled = []
    for table, after, _, indexes in store:
        rows = tuple([spotted[spot] for spot in sorted(spotted) if spot[0] == table])
        filled.append((table, after, rows, indexes))
    return tuple(filled)


def with_table(store, entry):
    """A STORE with (table, next, rows, indexes) in the place of that of its table, or there, too."""
    return tuple(sorted([other for other in store if other[0] != entry[0]] + [entry]))


def row_turned(row, k, worth):
    """A ROW whose worth k is another one, where it has one."""
    number, land, born, worths = row
    if k >= len(worths):
        return row
    return number, land, born, worths[:k] + (worth,) + worths[k + 1:]


def link_at(row, k):
    """The SPOT to which worth k of a ROW leads; None where the ROW has no such worth, or this is no LINK."""
    worths = row[3]
    if k >= len(worths) or not is_link(worths[k]):
        return None
    return worths[k][1:]
