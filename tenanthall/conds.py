"""CONDS: which ROWS MEET them."""

from tenanthall.kinds import is_whole
from tenanthall.sameness import same
from tenanthall.stores import rows_of


def meets_cond(row, cond):
    """Whether a ROW MEETS a COND."""
    k, sign, value = cond
    worths = row[3]
    if k >= len(worths):
        return False
    if sign == "=":
        return same(worths[k], value)
    if not is_whole(worths[k]) or not is_whole(value):
        return False
    return worths[k] < value if sign == "<" else worths[k] > value


def meets(row, conds):
    """Whether a ROW MEETS all CONDS."""
    return all([meets_cond(row, cond) for cond in conds])


def meeting(store, table, conds):
    """The ids, rising, of the ROWS of a table that MEET all CONDS."""
    return tuple([row[0] for row in rows_of(store, table) if meets(row, conds)])
