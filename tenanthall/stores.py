"""What is told of a STORE: its tables, and their rows, nexts and indexes."""

from tenanthall.kinds import is_number


def tables_of(store):
    """The tables of a STORE, rising."""
    return tuple([entry[0] for entry in store])


def table_in(store, table):
    """(table, next, rows, indexes) of a table, as of a void one where it isn't there."""
    for entry in store:
        if entry[0] == table:
            return entry
    return (table, 0, (), ())


def rows_of(store, table):
    """The ROWS of a table, () where it isn't there."""
    return table_in(store, table)[2]


def next_of(store, table):
    """The next of a table, 0 where it isn't there."""
    return table_in(store, table)[1]


def indexes_of(store, table):
    """The indexes of a table, () where it isn't there."""
    return table_in(store, table)[3]


def row_of(store, table, id_told):
    """The ROW of a table and an id, any thing; None where there is none."""
    # True would be found as the id 1.
    if not is_number(id_told):
        return None
    for row in rows_of(store, table):
        if row[0] == id_told:
            return row
    return None


def many_rows(store):
    """How many ROWS a STORE has in all."""
    return len(placed_rows(store))


def placed_rows(store):
    """A list of (table, ROW), one for each ROW of a STORE, by rising tables and ids."""
    return [(entry[0], row) for entry in store for row in entry[2]]
