"""What is read: any texts as VALUES, JOBS, RULES, SHARES and STORES.

What a word writes is told as a tuple of this one thing, () where it writes none,
for None is a VALUE, too.
"""

from tenanthall.errors import NoText
from tenanthall.figures import FIGURES, are_figures, words_of
from tenanthall.kinds import SIGNS, are_rising, is_said_text, is_store, is_word, job_parts, rule_parts
from tenanthall.lines import coded
from tenanthall.tokens import is_fraction

CODES = {"^": "^", "_": " ", ".": ","}


def word_in(word):
    """The WORD that a word writes."""
    return (word,) if is_word(word) else ()


def number_in(word):
    """The NUMBER that a word writes."""
    return (int(word),) if are_figures(word) else ()


def from_one_in(word):
    """The NUMBER from 1 on that a word writes."""
    return () if word == "0" else number_in(word)


def whole_in(word):
    """The NUMBER, below 0 too, that a word writes."""
    if word == "-0" or not are_figures(word.removeprefix("-")):
        return ()
    return (int(word),)


def decoded(code):
    """The text of a SAID that is CODED; some text where nothing is CODED so."""
    signs = []
    marked = False
    for sign in code:
        if marked:
            signs.append(CODES.get(sign, ""))
        elif sign != "^":
            signs.append(sign)
        marked = sign == "^" and not marked
    return "".join(signs)


def said_in(code):
    """The SAID whose text is CODED so."""
    text = decoded(code)
    # Each text is CODED in one way alone: what is CODED otherwise doesn't come again.
    return (("said", text),) if is_said_text(text) and coded(text) == code else ()


def link_in(spot):
    """The LINK to a table and an id with a point between."""
    table, _, number = spot.partition(".")
    return (("link", table, int(number)),) if is_word(table) and are_figures(number) else ()


def value_in(word):
    """The VALUE that a word writes."""
    if word == "-":
        return (None,)
    if word.startswith("'"):
        return said_in(word[1:])
    if word.startswith("@"):
        return link_in(word[1:])
    return whole_in(word)


def cond_in(word):
    """The COND that a word writes."""
    rest = word.lstrip(FIGURES)
    k = word[:len(word) - len(rest)]
    value = value_in(rest[1:])
    if not are_figures(k) or rest[:1] not in SIGNS or value == ():
        return ()
    return ((int(k), rest[0], value[0]),)


def conds_in(word):
    """The CONDS that a word writes."""
    if word == "-":
        return ((),)
    conds = [cond_in(part) for part in word.split(",")]
    return () if () in conds else (tuple([cond[0] for cond in conds]),)


def indexes_in(word):
    """The indexes that a word writes."""
    if word == "-":
        return ((),)
    numbers = [number_in(part) for part in word.split(",")]
    if () in numbers or not are_rising(numbers):
        return ()
    return (tuple([number[0] for number in numbers]),)


def slash_in(word):
    """The / ahead of worths."""
    return (word,) if word == "/" else ()


def known_in(word):
    """A word that was looked at already."""
    return (word,)


READERS = {
    "word": known_in,
    "table": word_in,
    "land": word_in,
    "id": number_in,
    "k": number_in,
    "most": number_in,
    "next": number_in,
    "born": number_in,
    "over": number_in,
    "ticks": from_one_in,
    "under": from_one_in,
    "from one": from_one_in,
    "more": whole_in,
    "value": value_in,
    "conds": conds_in,
    "indexes": indexes_in,
    "/": slash_in,
}


def kinds_of_words(kinds, many):
    """The kind of each word, where there are so many words: worths are / and all words behind it."""
    told = []
    for kind in kinds:
        if kind == "worths":
            told.append("/")
            told.extend(["value"] * (many - len(told)))
        else:
            told.append(kind)
    return told


def things_in(words, kinds, line):
    """The things of these kinds that words write, a / and worths one by one; refused by the first word that can't."""
    told = kinds_of_words(kinds, len(words))
    things = []
    for at, word in enumerate(words):
        if at == len(told):
            raise NoText(line, at)
        reader = READERS[told[at]]
        found = reader(word)
        if found == ():
            raise NoText(line, at)
        things.append(found[0])
    if len(words) < len(told):
        raise NoText(line, len(words))
    return things


def with_worths(things):
    """Three things, and behind them, where a / stood, worths as one tuple."""
    return tuple(things[:3]) + (tuple(things[4:]),)


def read_value(text, *, line=0):
    """The VALUE that any text writes."""
    return things_in(words_of(text), ("value",), line)[0]


def read_job(text, *, line=0):
    """The JOB that any text writes."""
    words = words_of(text)
    kinds = job_parts(words[0])
    if kinds == ():
        raise NoText(line, 0)
    things = things_in(words, ("word",) + kinds, line)
    return with_worths(things) if "worths" in kinds else tuple(things)


def read_rule(text, *, line=0):
    """The RULE that any text writes."""
    words = words_of(text)
    kinds = rule_parts(words[0])
    if kinds == ():
        raise NoText(line, 0)
    return tuple(things_in(words, ("word",) + kinds, line))


def read_share(text, *, line=0):
    """The SHARE that any text writes."""
    words = words_of(text)
    over, under = things_in(words[:2], ("over", "under"), line)
    if not is_fraction((over, under)):
        raise NoText(line, 1)
    return (over, under), things_in(words, ("over", "under", "from one"), line)[2]


def lines_of(text):
    """The lines of a text; one line end behind the last line is let be."""
    if text == "":
        return []
    return text.removesuffix("\n").split("\n")


def read_store(text):
    """The STORE that any text writes."""
    lines = lines_of(text)
    heads = []
    rows = []
    for at, line in enumerate(lines):
        words = words_of(line)
        if words[0] == "table":
            heads.append(things_in(words, ("word", "table", "next", "indexes"), at))
            rows.append([])
        elif heads == []:
            raise NoText(at, 0)
        else:
            rows[-1].append(with_worths(things_in(words, ("id", "land", "born", "worths"), at)))
    store = tuple([(head[1], head[2], tuple(its_rows), head[3]) for head, its_rows in zip(heads, rows)])
    if not is_store(store):
        raise NoText(len(lines), 0)
    return store
