"""STEPS of a hall, by kind: names may be of none, and nothing of the hall is asked."""

from tenanthall.corrections import is_correction
from tenanthall.kinds import begins_with_text, is_job, is_number, is_rule, is_tuple_of, is_word
from tenanthall.prices import is_prices
from tenanthall.tokens import is_share

# What stands behind the word of a STEP, thing by thing; but for "all", whose STEPS are such.
PARTS = {
    "house": ("word", "word", "number"),
    "open": ("word", "word", "share"),
    "rule": ("rule",),
    "price": ("prices",),
    "move": ("word", "word"),
    "break": ("word",),
    "fall": ("word",),
    "save": ("word",),
    "restore": ("word",),
    "export": ("word",),
    "import": ("word", "text"),
    "correct": ("word", "correction"),
    "job": ("word", "job"),
    "tick": ("slices",),
}


def step_parts(word):
    """The kinds of what stands behind the word of a STEP; () where no STEP has this word, and of "all"."""
    return PARTS.get(word, ())


def is_slice(thing):
    """Whether it is a pair of a name and how many STEPS."""
    return is_tuple_of(thing, 2) and is_word(thing[0]) and is_number(thing[1])


def are_slices(thing):
    """Whether it is SLICES."""
    return isinstance(thing, tuple) and all([is_slice(part) for part in thing])


def is_text(thing):
    """Whether it is a text, any."""
    return isinstance(thing, str)


def is_part(kind, thing):
    """Whether a thing is of the kind of a part of a STEP."""
    match kind:
        case "word":
            return is_word(thing)
        case "number":
            return is_number(thing)
        case "share":
            return is_share(thing)
        case "rule":
            return is_rule(thing)
        case "prices":
            return is_prices(thing)
        case "text":
            return is_text(thing)
        case "correction":
            return is_correction(thing)
        case "job":
            return is_job(thing)
        case _:
            return are_slices(thing)


def is_one_step(thing):
    """Whether it is a STEP, but no "all"."""
    if not begins_with_text(thing) or thing[0] not in PARTS:
        return False
    kinds = PARTS[thing[0]]
    return len(thing) == 1 + len(kinds) and all([is_part(kind, part) for kind, part in zip(kinds, thing[1:])])


def is_all(thing):
    """Whether it is a STEP "all"."""
    if not is_tuple_of(thing, 2) or thing[0] != "all" or not isinstance(thing[1], tuple):
        return False
    return all([is_one_step(part) for part in thing[1]])


def is_step(thing):
    """Whether any thing is a STEP by kind."""
    return is_one_step(thing) or is_all(thing)
