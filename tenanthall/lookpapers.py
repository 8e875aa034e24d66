"""LOOK PAPERS: by which COND the ROWS that an ASK needs are found, and which they are."""

from tenanthall.measures import looked_at


def look_paper(store, ask):
    """A LOOK PAPER of an ASK "rows", "count", "sum": that by which its MEASURE is reckoned."""
    return looked_at(store, ask)
