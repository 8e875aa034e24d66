"""MEASURES: how many STEPS a JOB costs, by the ROWS that are looked at."""

from tenanthall.conds import meeting
from tenanthall.stores import indexes_of, link_at, row_of, rows_of


def looks(job):
    """Whether a JOB is an ASK that looks at ROWS by CONDS."""
    return job[0] in ("rows", "count", "sum")


def conds_of(ask):
    """The CONDS of an ASK "rows", "count", "sum"."""
    return ask[3] if ask[0] == "sum" else ask[2]


def first_indexed(conds, indexes):
    """The number of the first COND "=" of a worth by which there is an index, None where there is none."""
    for by, (k, sign, _) in enumerate(conds):
        if sign == "=" and k in indexes:
            return by
    return None


def looked_at(store, ask):
    """(by, ids): the COND by which an ASK "rows", "count", "sum" looks, and the ROWS that are LOOKED AT."""
    table, conds = ask[1], conds_of(ask)
    by = first_indexed(conds, indexes_of(store, table))
    looked_by = () if by is None else (conds[by],)
    return by, meeting(store, table, looked_by)


def measure_of(store, job):
    """The MEASURE of a JOB on a STORE."""
    word, table = job[:2]
    if word == "put":
        return 1
    if word == "index":
        return 1 + len(rows_of(store, table))
    if looks(job):
        return 1 + len(looked_at(store, job)[1])
    return 1 + many_looked_up(store, job)


def many_looked_up(store, job):
    """How many ROWS are there of those that a JOB looks up: that of its id, and of "follow" the LINK's."""
    row = row_of(store, job[1], job[2])
    if row is None:
        return 0
    spot = link_at(row, job[3]) if job[0] == "follow" else None
    if spot is None or row_of(store, spot[0], spot[1]) is None:
        return 1
    return 2
