"""What ANSWERS SHOW, and the BOOK of ROWS shown whose land wants it told."""

from tenanthall.kinds import is_refusal
from tenanthall.rules import rule_of
from tenanthall.stores import link_at, row_of


def shown_by(store, ask, answer):
    """The SPOTS of the ROWS that an ASK's ANSWER SHOWS, in order."""
    if is_refusal(answer):
        return ()
    word, table = ask[:2]
    if word == "get":
        return ((table, ask[2]),)
    if word == "rows":
        return tuple([(table, number) for number in answer])
    if word == "follow":
        return (link_at(row_of(store, table, ask[2]), ask[3]),)
    return ()


def book_with(book, store, ask, answer, *, rules, tick):
    """A BOOK with, behind, each ROW SHOWN whose land has a RULE "told"."""
    told = []
    for table, number in shown_by(store, ask, answer):
        land = row_of(store, table, number)[1]
        if rule_of(rules, "told", land) is not None:
            told.append((tick, table, number))
    return book + tuple(told)
