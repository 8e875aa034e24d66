"""Whether any thing is an IMPORT PAPER of a STORE, PARTED, a newer STORE and a tick."""

from tenanthall.errors import NoPaper
from tenanthall.imports import brought_store, newer_ids
from tenanthall.kinds import is_number, is_tuple_of, is_word
from tenanthall.stores import next_of, placed_rows, row_of


def lets_import(store, parted, newer, thing, *, tick):
    """How many pairs an IMPORT PAPER has; any other thing is refused."""
    if not isinstance(thing, tuple) or not all([is_pair_of_ids(part) for part in thing]):
        raise NoPaper("shape", -1)
    if [part[:2] for part in thing] != [(table, row[0]) for table, row in placed_rows(parted)]:
        raise NoPaper("rows", -1)
    # The ids and LINKS by what ROWS get there, whatever the paper says of them.
    brought = brought_store(store, parted, newer_ids(store, parted), tick)
    ahead = {}
    for j, (table, _, number) in enumerate(thing):
        many = ahead.get(table, 0)
        if number != next_of(store, table) + many:
            raise NoPaper("id", j)
        if row_of(newer, table, number) != row_of(brought, table, number):
            raise NoPaper("row", j)
        ahead[table] = many + 1
    if newer != brought:
        raise NoPaper("rest", -1)
    return len(thing)


def is_pair_of_ids(thing):
    """Whether it is a triple of a WORD and two NUMBERS."""
    return is_tuple_of(thing, 3) and is_word(thing[0]) and is_number(thing[1]) and is_number(thing[2])
