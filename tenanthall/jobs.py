"""JOBS DONE on a STORE: what each tells, an ANSWER or a REFUSAL, and the STORE behind it."""

from tenanthall.conds import meets
from tenanthall.kinds import is_ask, is_whole
from tenanthall.measures import conds_of, looks
from tenanthall.rules import is_kept, is_stray
from tenanthall.stores import has_table, link_at, row_of, row_turned, rows_of, table_in, with_table


def done_job(store, job, *, tick, land, rules=()):
    """(STORE, told): the STORE behind a JOB, and its ANSWER or REFUSAL."""
    word = refusal_of(store, job, tick=tick, land=land, rules=rules)
    if word is not None:
        return store, ("no", word)
    if is_ask(job):
        return store, answer_of(store, job)
    if job[0] == "put":
        return put_done(store, job, tick)
    if job[0] == "index":
        return index_done(store, job)
    return row_done(store, job)


def refusal_of(store, job, *, tick, land, rules):
    """The word by which a JOB is refused, the first that is due; None where none is."""
    word, table = job[:2]
    if word == "index":
        return None
    if word == "put":
        return "stay" if is_stray(row_put(store, job, tick), rules=rules, land=land) else None
    if not has_table(store, table):
        return "table"
    if looks(job):
        return None
    row = row_of(store, table, job[2])
    if row is None:
        return "row"
    if not has_worth(row, job):
        return "worth"
    if word == "follow":
        return "link" if row_linked(store, row, job[3]) is None else None
    return "kept" if word != "get" and is_kept(row, rules=rules, tick=tick) else None


def has_worth(row, job):
    """Whether a ROW has the worth that a JOB of its id wants of it."""
    word = job[0]
    if word in ("get", "drop"):
        return True
    k, worths = job[3], row[3]
    if word == "follow":
        return link_at(row, k) is not None
    return k < len(worths) and (word == "set" or is_whole(worths[k]))


def row_linked(store, row, k):
    """The ROW to which the LINK that is worth k of a ROW leads, None where it isn't there."""
    table, number = link_at(row, k)
    return row_of(store, table, number)


def row_put(store, deed, tick):
    """The ROW that a "put" puts."""
    return table_in(store, deed[1])[1], deed[2], tick, deed[3]


def put_done(store, deed, tick):
    """(STORE, id) of a "put" that isn't refused."""
    table, after, rows, indexes = table_in(store, deed[1])
    return with_table(store, (table, after + 1, rows + (row_put(store, deed, tick),), indexes)), after


def index_done(store, deed):
    """(STORE, True) of an "index"."""
    table, after, rows, indexes = table_in(store, deed[1])
    return with_table(store, (table, after, rows, tuple(sorted(set(indexes + (deed[2],)))))), True


def row_done(store, deed):
    """(STORE, told) of a "set", "add" or "drop" that isn't refused."""
    table, after, rows, indexes = table_in(store, deed[1])
    row = row_of(store, table, deed[2])
    at = rows.index(row)
    if deed[0] == "drop":
        return with_table(store, (table, after, rows[:at] + rows[at + 1:], indexes)), True
    k, told = deed[3], deed[4]
    if deed[0] == "add":
        told += row[3][k]
    newer = row_turned(row, k, told)
    return with_table(store, (table, after, rows[:at] + (newer,) + rows[at + 1:], indexes)), told


def answer_of(store, ask):
    """The ANSWER of an ASK that isn't refused."""
    if looks(ask):
        return answer_by(rows_of(store, ask[1]), ask)
    row = row_of(store, ask[1], ask[2])
    if ask[0] == "follow":
        row = row_linked(store, row, ask[3])
    return row[3]


def answer_by(rows, ask):
    """The ANSWER of an ASK "rows", "count", "sum", by ROWS among which are all that MEET its CONDS."""
    found = [row for row in rows if meets(row, conds_of(ask))]
    if ask[0] == "count":
        return len(found)
    if ask[0] == "rows":
        return tuple([row[0] for row in found[:ask[3]]])
    k = ask[2]
    return sum([row[3][k] for row in found if k < len(row[3]) and is_whole(row[3][k])])
