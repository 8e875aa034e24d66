"""A SHELF: a STORE with all its indexes at hand."""

from tenanthall.jobs import answer_by, done_job
from tenanthall.kinds import is_deed
from tenanthall.measures import conds_of, first_indexed, looks, measure_of
from tenanthall.stores import has_table, indexes_of, placed_rows, rows_of


def indexed(rows, k):
    """A dict of the ROWS that have a worth k, by this, each a list, in the order of the least id."""
    found = {}
    for row in rows:
        if k < len(row[3]):
            found.setdefault(row[3][k], []).append(row)
    return found


def indexes_at_hand(store, table):
    """A dict of the indexes of a table of a STORE, each by its number."""
    rows = rows_of(store, table)
    return {k: indexed(rows, k) for k in indexes_of(store, table)}


class Shelf:
    """It tells the same as its STORE; an ASK is answered by the ROWS that are LOOKED AT alone."""

    def __init__(self, store=()):
        self.shelved = store
        self.measured = 0
        self.at_hand = {entry[0]: indexes_at_hand(store, entry[0]) for entry in store}

    def do(self, job, *, tick, land, rules=()):
        """The ANSWER or REFUSAL of a JOB done on it."""
        if looks(job) and has_table(self.shelved, job[1]):
            rows = self.looked_rows(job)
            self.measured += 1 + len(rows)
            return answer_by(rows, job)
        self.measured += measure_of(self.shelved, job)
        self.shelved, told = done_job(self.shelved, job, tick=tick, land=land, rules=rules)
        if is_deed(job):
            self.at_hand[job[1]] = indexes_at_hand(self.shelved, job[1])
        return told

    def looked_rows(self, ask):
        """The ROWS that are LOOKED AT for an ASK "rows", "count", "sum" of a table that is there."""
        table, conds = ask[1], conds_of(ask)
        by = first_indexed(conds, indexes_of(self.shelved, table))
        if by is None:
            return rows_of(self.shelved, table)
        k, _, value = conds[by]
        return self.at_hand[table][k].get(value, [])

    def store(self):
        """Its STORE."""
        return self.shelved

    def steps(self):
        """The MEASURES of all JOBS that were done, added."""
        return self.measured

    def index(self, table, k):
        """(VALUE, ids) of each VALUE that worth k has in a table, None where there is no such index."""
        if k not in indexes_of(self.shelved, table):
            return None
        found = self.at_hand[table][k]
        return tuple([(value, tuple([row[0] for row in found[value]])) for value in found])

    def __eq__(self, other):
        return isinstance(other, Shelf) and self.shelved == other.shelved

    def __len__(self):
        return len(placed_rows(self.shelved))
