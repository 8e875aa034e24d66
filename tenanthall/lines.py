"""What is written: VALUES, JOBS, RULES, SHARES and STORES as texts."""

from tenanthall.kinds import is_whole, job_parts


def coded(text):
    """A SAID's text CODED, so that it has no blank and no comma."""
    return text.replace("^", "^^").replace(" ", "^_").replace(",", "^.")


def shown_value(value):
    """A VALUE as one word."""
    if value is None:
        return "-"
    if is_whole(value):
        return str(value)
    if value[0] == "link":
        return f"@{value[1]}.{value[2]}"
    return "'" + coded(value[1])


def shown_conds(conds):
    """CONDS as one word."""
    if conds == ():
        return "-"
    return ",".join([f"{k}{sign}{shown_value(value)}" for k, sign, value in conds])


def shown_worths(worths):
    """The words of worths, behind their /."""
    return " ".join(["/"] + [shown_value(value) for value in worths])


def shown_indexes(indexes):
    """A table's indexes as one word."""
    if indexes == ():
        return "-"
    return ",".join([str(k) for k in indexes])


def shown_part(kind, part):
    """A part of a JOB, by its kind."""
    if kind == "value":
        return shown_value(part)
    if kind == "worths":
        return shown_worths(part)
    if kind == "conds":
        return shown_conds(part)
    return str(part)


def shown_job(job):
    """A JOB as a text."""
    parts = [shown_part(kind, part) for kind, part in zip(job_parts(job[0]), job[1:])]
    return " ".join([job[0]] + parts)


def shown_rule(rule):
    """A RULE as a text."""
    return " ".join([str(part) for part in rule])


def shown_share(share):
    """A SHARE as a text."""
    (over, under), most = share
    return f"{over} {under} {most}"


def shown_row(row):
    """A ROW as a line."""
    number, land, born, worths = row
    return f"{number} {land} {born} {shown_worths(worths)}"


def shown_store(store):
    """A STORE as a text of lines."""
    lines = []
    for table, after, rows, indexes in store:
        lines.append(f"table {table} {after} {shown_indexes(indexes)}")
        lines.extend([shown_row(row) for row in rows])
    return "\n".join(lines)
