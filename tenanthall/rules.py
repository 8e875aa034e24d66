"""RULES of lands: which ROWS they reach, keep, strike and let stray."""

from tenanthall.kinds import are_rising, is_rule
from tenanthall.stores import placed_rows


def is_rules(thing):
    """Whether any thing is RULES."""
    if not isinstance(thing, tuple) or not all([is_rule(part) for part in thing]):
        return False
    return are_rising([rule[:2] for rule in thing])


def rule_of(rules, word, land):
    """The RULE of a word and a land among RULES, None where there is none."""
    for rule in rules:
        if rule[:2] == (word, land):
            return rule
    return None


def is_kept(row, *, rules, tick):
    """Whether a ROW is KEPT at a tick."""
    kept = rule_of(rules, "kept", row[1])
    return kept is not None and tick - row[2] < kept[2]


def is_due(row, *, rules, tick):
    """Whether a ROW is DUE at a tick."""
    struck = rule_of(rules, "struck", row[1])
    if struck is None or tick - row[2] < struck[2]:
        return False
    return not is_kept(row, rules=rules, tick=tick)


def is_stray(row, *, rules, land):
    """Whether a ROW STRAYS in a LAND."""
    return row[1] != land and rule_of(rules, "stay", row[1]) is not None


def reached(store, rule):
    """The spots of the ROWS that a RULE REACHES."""
    return tuple([(table, row[0]) for table, row in placed_rows(store) if row[1] == rule[1]])


def kept_rows(store, *, rules, tick):
    """The spots of the ROWS that are KEPT at a tick."""
    return tuple([(table, row[0]) for table, row in placed_rows(store) if is_kept(row, rules=rules, tick=tick)])


def due_rows(store, *, rules, tick):
    """The spots of the ROWS that are DUE at a tick."""
    return tuple([(table, row[0]) for table, row in placed_rows(store) if is_due(row, rules=rules, tick=tick)])


def strays(store, *, rules, land):
    """The spots of the ROWS that STRAY in a LAND."""
    return tuple([(table, row[0]) for table, row in placed_rows(store) if is_stray(row, rules=rules, land=land)])


def store_struck(store, *, rules, tick):
    """The STORE behind STRIKING: without its ROWS that are DUE."""
    struck = []
    for table, after, rows, indexes in store:
        left = tuple([row for row in rows if not is_due(row, rules=rules, tick=tick)])
        struck.append((table, after, left, indexes))
    return tuple(struck)
