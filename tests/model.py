"""A plain model of DEEDS DONE (points 4 and 13), so that the LOGS and STORES of tests come of one another."""

LANDS = ("eu", "us")
TABLES = ("dept", "emp")


def rule_of(rules, word, land):
    return next((rule for rule in rules if rule[:2] == (word, land)), None)


def deed_done(store, deed, *, tick, land, rules=()):
    """(STORE, told) of a DEED DONE."""
    tables = {entry[0]: [entry[1], {row[0]: row for row in entry[2]}, set(entry[3])] for entry in store}
    told = told_by(tables, deed, tick, land, rules)
    return tuple((table, after, tuple(rows[number] for number in sorted(rows)), tuple(sorted(indexes)))
                 for table, (after, rows, indexes) in sorted(tables.items())), told


def told_by(tables, deed, tick, land, rules):
    """What a DEED tells; the tables are turned by it."""
    word, table = deed[:2]
    if word == "put":
        if deed[2] != land and rule_of(rules, "stay", deed[2]):
            return "no", "stay"
        entry = tables.setdefault(table, [0, {}, set()])
        entry[1][entry[0]] = (entry[0], deed[2], tick, deed[3])
        entry[0] += 1
        return entry[0] - 1
    if word == "index":
        tables.setdefault(table, [0, {}, set()])[2].add(deed[2])
        return True
    return told_of_row(tables, deed, tick, rules)


def told_of_row(tables, deed, tick, rules):
    """What "set", "add", "drop" tell."""
    word, table, number = deed[:3]
    if table not in tables:
        return "no", "table"
    rows = tables[table][1]
    if number not in rows:
        return "no", "row"
    _, land, born, worths = rows[number]
    if word != "drop" and (deed[3] >= len(worths) or word == "add" and not isinstance(worths[deed[3]], int)):
        return "no", "worth"
    kept = rule_of(rules, "kept", land)
    if kept and tick - born < kept[2]:
        return "no", "kept"
    if word == "drop":
        del rows[number]
        return True
    told = deed[4] if word == "set" else worths[deed[3]] + deed[4]
    rows[number] = (number, land, born, worths[:deed[3]] + (told,) + worths[deed[3] + 1:])
    return told


def fits_cond(worths, cond):
    k, sign, value = cond
    if k >= len(worths):
        return False
    if sign == "=":
        return worths[k] == value
    numbers = isinstance(worths[k], int) and isinstance(value, int)
    return numbers and (worths[k] < value if sign == "<" else worths[k] > value)


def ask_told(store, ask):
    """What an ASK tells."""
    word, table = ask[:2]
    tables = {entry[0]: {row[0]: row for row in entry[2]} for entry in store}
    if table not in tables:
        return "no", "table"
    rows = tables[table]
    if word in ("get", "follow"):
        if ask[2] not in rows:
            return "no", "row"
        worths = rows[ask[2]][3]
        if word == "get":
            return worths
        link = worths[ask[3]] if ask[3] < len(worths) else None
        if not isinstance(link, tuple) or link[0] != "link":
            return "no", "worth"
        linked = tables.get(link[1], {}).get(link[2])
        return ("no", "link") if linked is None else linked[3]
    conds = ask[3] if word == "sum" else ask[2]
    found = [number for number in sorted(rows) if all(fits_cond(rows[number][3], cond) for cond in conds)]
    if word == "rows":
        return tuple(found)[:ask[3]]
    if word == "count":
        return len(found)
    worths = [rows[number][3][ask[2]] for number in found if ask[2] < len(rows[number][3])]
    return sum(worth for worth in worths if isinstance(worth, int))


def job_done(store, job, *, tick, land, rules=()):
    """(STORE, told) of a JOB DONE."""
    if job[0] in ("put", "set", "add", "drop", "index"):
        return deed_done(store, job, tick=tick, land=land, rules=rules)
    return store, ask_told(store, job)


def some_value(chance):
    return chance.choice((None, 0, -3, 7, ("said", "ann"), ("link", "emp", chance.randrange(9))))


def some_deed(chance, tables=TABLES, lands=LANDS):
    """Any DEED, more often one that isn't refused."""
    word = chance.choice(("put", "put", "set", "set", "add", "drop", "index"))
    table, number, k = chance.choice(tables), chance.randrange(12), chance.randrange(3)
    if word == "put":
        return word, table, chance.choice(lands), tuple(some_value(chance) for _ in range(chance.randrange(4)))
    more = {"set": (k, some_value(chance)), "add": (k, chance.randrange(-5, 6)), "drop": (), "index": ()}
    return (word, table, k if word == "index" else number) + more[word]


def some_conds(chance):
    return tuple((chance.randrange(4), chance.choice("==<>"), some_value(chance)) for _ in range(chance.choice((0, 1, 1, 2))))


def some_ask(chance, tables=TABLES):
    """Any ASK."""
    word, table, k = chance.choice(("get", "rows", "count", "sum", "follow")), chance.choice(tables), chance.randrange(4)
    more = {"get": (chance.randrange(12),), "rows": (some_conds(chance), chance.randrange(5)),
            "count": (some_conds(chance),), "sum": (k, some_conds(chance)), "follow": (chance.randrange(12), k)}
    return (word, table) + more[word]


def some_job(chance, **more):
    """Any JOB."""
    if chance.random() < 0.6:
        return some_deed(chance, **more)
    return some_ask(chance, **{word: thing for word, thing in more.items() if word == "tables"})


def some_store(chance, deeds=20, ticks=4, **more):
    """A STORE as some DEEDS leave it, done at ticks below a NUMBER."""
    store = ()
    for tick in sorted(chance.randrange(ticks) for _ in range(deeds)):
        store, _ = deed_done(store, some_deed(chance, **more), tick=tick, land="eu")
    return store
