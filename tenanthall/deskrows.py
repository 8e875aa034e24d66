"""Rows of a desk: what any texts ask of it.

What words don't write comes as None within, or as another thing than its kind; so the
kinds alone are looked at, once, behind.
"""

from tenanthall.errors import NoLine, NoText
from tenanthall.figures import words_of
from tenanthall.hallkinds import is_step, step_parts
from tenanthall.kinds import is_word
from tenanthall.readings import number_in, read_job, read_rule, read_share, whole_in

# What stands behind the word of a row.
ASKED = {
    "now": (),
    "tenants": (),
    "where": ("tenant",),
    "shape": ("tenant",),
    "told": ("tenant", "number"),
    "coins": ("tenant",),
    "undo": ("number",),
}


def read_row(row):
    """(word, things) that any text as a row asks."""
    words = words_of(row)
    try:
        things = things_in_row(words[0], words[1:]) if "" not in words else None
    except NoText:
        things = None
    if things is None:
        raise NoLine(row)
    return words[0], things


def things_in_row(word, words):
    """The things that words write behind the word of a row, None where they can't stand there."""
    if word in ("do", "all"):
        steps = steps_in(words)
        return steps if all([is_step(step) for step in steps]) else None
    if word == "undo" and words == []:
        return (1,)
    if word not in ASKED or len(words) != len(ASKED[word]):
        return None
    things = tuple([thing_in(kind, part) for kind, part in zip(ASKED[word], words)])
    return None if None in things else things


def thing_in(kind, word):
    """The TENANT or NUMBER that a word writes, None where it writes none."""
    if kind == "number":
        return first_of(number_in(word))
    return word if is_word(word) else None


def first_of(found):
    """The one thing that a word writes, None where it writes none."""
    return None if found == () else found[0]


def steps_in(words):
    """What words write as STEPS, a | between."""
    groups = [[]]
    for word in words:
        if word == "|":
            groups.append([])
        else:
            groups[-1].append(word)
    return tuple([step_in(group) for group in groups])


def step_in(words):
    """What words write as a STEP, but never one of an "import", nor an "all"."""
    if words == [] or words[0] == "import":
        return None
    kinds = step_parts(words[0])
    step = [words[0]]
    for at, kind in enumerate(kinds):
        # The last part may be of several words, or of none.
        end = len(words) if at + 1 == len(kinds) else at + 2
        step.append(part_in(kind, words[at + 1:end]))
    return tuple(step)


def part_in(kind, words):
    """What words write as a part of a STEP."""
    text = " ".join(words)
    match kind:
        case "number":
            return first_of(number_in(text))
        case "share":
            return read_share(text)
        case "rule":
            return read_rule(text)
        case "job":
            return read_job(text)
        case "prices":
            return prices_in(words)
        case "correction":
            return correction_in(words)
        case "slices":
            return tuple([slice_in(word) for word in words])
        case _:
            return text


def prices_in(words):
    """What words write as PRICES: each KIND and its TIERS."""
    if len(words) % 2 == 1:
        return None
    return tuple([(kind, tiers_in(tiers)) for kind, tiers in zip(words[::2], words[1::2])])


def tiers_in(word):
    """What a word writes as TIERS, commas between."""
    tiers = []
    for part in word.split(","):
        start, _, coins = part.partition(":")
        tiers.append((first_of(number_in(start)), first_of(number_in(coins))))
    return tuple(tiers)


def correction_in(words):
    """What words write as a CORRECTION."""
    if len(words) != 3:
        return None
    day, kind, more = words
    return first_of(number_in(day)), kind, first_of(whole_in(more))


def slice_in(word):
    """What a word writes as a name and how many STEPS."""
    name, _, many = word.partition(":")
    return name, first_of(number_in(many))
