"""The kinds: whether any thing is a NUMBER, a WORD, a VALUE, a ROW, a STORE, a COND, a JOB, a RULE."""

SMALL_LETTERS = "abcdefghijklmnopqrstuvwxyz"
MOST_LETTERS = 8
MOST_SIGNS = 12

# The sign for hundredths is the only one from the blank to ~ that texts never have.
FIRST_SIGN = 32
LAST_SIGN = 126
BARRED_SIGN = 37

SIGNS = ("=", "<", ">")

# What stands behind the word of a JOB or a RULE, thing by thing.
DEEDS = {
    "put": ("table", "land", "worths"),
    "set": ("table", "id", "k", "value"),
    "add": ("table", "id", "k", "more"),
    "drop": ("table", "id"),
    "index": ("table", "k"),
}
ASKS = {
    "get": ("table", "id"),
    "rows": ("table", "conds", "most"),
    "count": ("table", "conds"),
    "sum": ("table", "k", "conds"),
    "follow": ("table", "id", "k"),
}
RULES = {
    "stay": ("land",),
    "kept": ("land", "ticks"),
    "struck": ("land", "ticks"),
    "told": ("land",),
}


def is_whole(thing):
    """Whether it is a NUMBER, below 0 too."""
    return isinstance(thing, int) and not isinstance(thing, bool)


def is_number(thing):
    """Whether it is a NUMBER from 0 on."""
    return is_whole(thing) and thing >= 0


def is_from_one(thing):
    """Whether it is a NUMBER from 1 on."""
    return is_whole(thing) and thing >= 1


def is_word(thing):
    """Whether it is a text of one to eight small letters."""
    if not isinstance(thing, str) or not 1 <= len(thing) <= MOST_LETTERS:
        return False
    return all([sign in SMALL_LETTERS for sign in thing])


def is_said_text(thing):
    """Whether a SAID may have this text."""
    if not isinstance(thing, str) or len(thing) > MOST_SIGNS:
        return False
    numbers = [ord(sign) for sign in thing]
    return all([FIRST_SIGN <= number <= LAST_SIGN and number != BARRED_SIGN for number in numbers])


def is_tuple_of(thing, many):
    """Whether it is a tuple of so many things."""
    return isinstance(thing, tuple) and len(thing) == many


def is_said(thing):
    """Whether it is a SAID."""
    return is_tuple_of(thing, 2) and thing[0] == "said" and is_said_text(thing[1])


def is_link(thing):
    """Whether it is a LINK, wherever it leads."""
    return is_tuple_of(thing, 3) and thing[0] == "link" and is_word(thing[1]) and is_number(thing[2])


def is_value(thing):
    """Whether it is a VALUE."""
    return thing is None or is_whole(thing) or is_said(thing) or is_link(thing)


def are_worths(thing):
    """Whether it is a tuple of VALUES."""
    return isinstance(thing, tuple) and all([is_value(part) for part in thing])


def is_row(thing):
    """Whether it is a ROW."""
    if not is_tuple_of(thing, 4):
        return False
    return is_number(thing[0]) and is_word(thing[1]) and is_number(thing[2]) and are_worths(thing[3])


def are_rising(things):
    """Whether each of the things, all of one kind, is above the one ahead."""
    return all([things[k] < things[k + 1] for k in range(len(things) - 1)])


def are_rows(thing, below):
    """Whether it is a tuple of ROWS by rising id, all ids below a NUMBER."""
    if not isinstance(thing, tuple) or not all([is_row(part) for part in thing]):
        return False
    ids = [row[0] for row in thing]
    return are_rising(ids) and all([number < below for number in ids])


def are_indexes(thing):
    """Whether it is a rising tuple of NUMBERS."""
    return isinstance(thing, tuple) and all([is_number(part) for part in thing]) and are_rising(thing)


def is_table(thing):
    """Whether it is (table, next, rows, indexes) as a STORE has them."""
    if not is_tuple_of(thing, 4):
        return False
    return is_word(thing[0]) and is_number(thing[1]) and are_rows(thing[2], thing[1]) and are_indexes(thing[3])


def is_store(thing):
    """Whether it is a STORE."""
    if not isinstance(thing, tuple) or not all([is_table(part) for part in thing]):
        return False
    return are_rising([table[0] for table in thing])


def is_cond(thing):
    """Whether it is a COND."""
    return is_tuple_of(thing, 3) and is_number(thing[0]) and thing[1] in SIGNS and is_value(thing[2])


def are_conds(thing):
    """Whether it is a tuple of CONDS."""
    return isinstance(thing, tuple) and all([is_cond(part) for part in thing])


CHECKS = {
    "table": is_word,
    "land": is_word,
    "id": is_number,
    "k": is_number,
    "most": is_number,
    "more": is_whole,
    "ticks": is_from_one,
    "value": is_value,
    "worths": are_worths,
    "conds": are_conds,
}


def fits(kind, thing):
    """Whether a thing is of the kind of a part of a JOB or a RULE."""
    check = CHECKS[kind]
    return check(thing)


def are_parts(things, kinds):
    """Whether things are just of these kinds, one for each."""
    return len(things) == len(kinds) and all([fits(kind, part) for kind, part in zip(kinds, things)])


def begins_with_text(thing):
    """Whether it is a tuple with a text ahead: a word can be looked up then, a list couldn't."""
    return isinstance(thing, tuple) and thing != () and isinstance(thing[0], str)


def is_deed(thing):
    """Whether it is a DEED."""
    return begins_with_text(thing) and thing[0] in DEEDS and are_parts(thing[1:], DEEDS[thing[0]])


def is_ask(thing):
    """Whether it is an ASK."""
    return begins_with_text(thing) and thing[0] in ASKS and are_parts(thing[1:], ASKS[thing[0]])


def is_job(thing):
    """Whether it is a JOB."""
    return is_deed(thing) or is_ask(thing)


def is_rule(thing):
    """Whether it is a RULE."""
    return begins_with_text(thing) and thing[0] in RULES and are_parts(thing[1:], RULES[thing[0]])


def is_refusal(told):
    """Whether what a JOB told is a REFUSAL: no ANSWER has a bare text ahead, for worths have texts in SAIDS alone."""
    return begins_with_text(told) and told[0] == "no"


def job_parts(word):
    """The kinds of what stands behind the word of a JOB; () where no JOB has this word."""
    if word in DEEDS:
        return DEEDS[word]
    return ASKS.get(word, ())


def rule_parts(word):
    """The kinds of what stands behind the word of a RULE; () where no RULE has this word."""
    return RULES.get(word, ())
