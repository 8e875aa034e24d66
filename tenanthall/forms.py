"""FORMS and FILLS: a JOB's text but for its values, and the values."""

from tenanthall.errors import NoPaper, NoText
from tenanthall.figures import are_figures, words_of
from tenanthall.kinds import SIGNS, fits, is_word, job_parts

# What stands in a FORM for a part that is one of the FILLS.
MARKS = {"id": "#", "most": "#", "more": "#", "value": "?"}


def form_of(job):
    """The FORM and the FILLS of a JOB."""
    words = [job[0]]
    fills = []
    for kind, part in zip(job_parts(job[0]), job[1:]):
        words.extend(form_words(kind, part))
        fills.extend(fills_in(kind, part))
    return " ".join(words), tuple(fills)


def form_words(kind, part):
    """The words of a FORM for a part of a JOB."""
    if kind == "worths":
        return ["?"] * len(part)
    if kind == "conds":
        return [f"{k}{sign}?" for k, sign, _ in part]
    if kind in MARKS:
        return [MARKS[kind]]
    return [str(part)]


def fills_in(kind, part):
    """The FILLS that a part of a JOB gives."""
    if kind == "worths":
        return list(part)
    if kind == "conds":
        return [cond[2] for cond in part]
    if kind in MARKS:
        return [part]
    return []


def job_of(form, fills):
    """The JOB that a text as a FORM and any thing as FILLS write."""
    return filled(read_form(form), fills)


def read_form(form):
    """A FORM as (word, parts): what of each part of the JOB stands in the FORM itself.

    Of worths this is how many ? there are, of CONDS the pairs (k, sign), of what is
    one of the FILLS its mark; so a FORM that was read once can be filled time and again.
    """
    words = words_of(form)
    kinds = job_parts(words[0])
    if kinds == ():
        raise NoText(0, 0)
    parts = []
    at = 1
    for kind in kinds:
        many = many_words(kind, words[at:])
        if many is None:
            raise NoText(0, at)
        parts.append(form_part(kind, words[at:at + many]))
        at += many
    if at < len(words):
        raise NoText(0, at)
    return words[0], tuple(parts)


def many_words(kind, words):
    """How many words, the first ones, are of a part of this kind; None where the first can't stand, or lacks."""
    if kind in ("worths", "conds"):
        many = 0
        while many < len(words) and stands(kind, words[many]):
            many += 1
        return many
    if words == [] or not stands(kind, words[0]):
        return None
    return 1


def stands(kind, word):
    """Whether a word can stand in a FORM for a part of this kind."""
    if kind == "worths":
        return word == "?"
    if kind == "conds":
        return word.endswith("?") and word[-2:-1] in SIGNS and are_figures(word[:-2])
    if kind == "k":
        return are_figures(word)
    if kind in MARKS:
        return word == MARKS[kind]
    return is_word(word)


def form_part(kind, words):
    """What the words of a part of this kind tell of it."""
    if kind == "worths":
        return len(words)
    if kind == "conds":
        return tuple([(int(word[:-2]), word[-2]) for word in words])
    if kind == "k":
        return int(words[0])
    return words[0]


def filled(read, fills):
    """The JOB of a FORM that was read, and of any thing as FILLS."""
    word, parts = read
    kinds = job_parts(word)
    refuse_fills(fill_kinds(kinds, parts), fills)
    job = [word]
    at = 0
    for kind, part in zip(kinds, parts):
        many = many_fills(kind, part)
        job.append(filled_part(kind, part, fills[at:at + many]))
        at += many
    return tuple(job)


def many_fills(kind, part):
    """How many of the FILLS go into a part."""
    if kind == "worths":
        return part
    if kind == "conds":
        return len(part)
    return 1 if kind in MARKS else 0


def fill_kinds(kinds, parts):
    """The kinds of the FILLS, in order."""
    told = []
    for kind, part in zip(kinds, parts):
        told.extend([kind if kind in MARKS else "value"] * many_fills(kind, part))
    return told


def refuse_fills(kinds, fills):
    """Refuse any thing that is no FILLS of these kinds."""
    if not isinstance(fills, tuple):
        raise NoPaper("shape", -1)
    if len(fills) != len(kinds):
        raise NoPaper("many", -1)
    for i, kind in enumerate(kinds):
        if not fits(kind, fills[i]):
            raise NoPaper("fill", i)


def filled_part(kind, part, fills):
    """A part of a JOB, with its own FILLS."""
    if kind == "worths":
        return fills
    if kind == "conds":
        return tuple([(k, sign, fill) for (k, sign), fill in zip(part, fills)])
    if kind in MARKS:
        return fills[0]
    return part
