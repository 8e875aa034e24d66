"""REACH PAPERS: what is DUE in PLACES, each with the RULE by which it is."""

from tenanthall.places import rows_there
from tenanthall.rules import is_due


def is_due_by(row, rule, *, rules, tick):
    """Whether a ROW is DUE at a tick by the RULE of this number among all RULES."""
    if rule >= len(rules) or rules[rule][:2] != ("struck", row[1]):
        return False
    return is_due(row, rules=rules, tick=tick)


def reach_paper(places, *, rules, tick):
    """The REACH PAPER of PLACES."""
    due = []
    for place, (word, thing) in enumerate(places):
        for table, row in rows_there(word, thing):
            due.extend([(place, table, row[0], rule) for rule in range(len(rules))
                        if is_due_by(row, rule, rules=rules, tick=tick)])
    return tuple(sorted(set(due)))
