"""EXPORTS: the text of a STORE, and how many signs it has."""

from tenanthall.lines import shown_store


def exported(store):
    """The EXPORT of a STORE."""
    return shown_store(store)


def letters(store):
    """How many signs the EXPORT of a STORE has."""
    return len(exported(store))
