"""STEPS of a hall: each is done on a HALL, and tells EVENTS."""

from tenanthall.backups import backup_of, restored
from tenanthall.corrections import corrected, correction_lines
from tenanthall.days import CALENDAR
from tenanthall.errors import NoHall
from tenanthall.exports import exported
from tenanthall.hallkinds import is_step
from tenanthall.halls import MANY
from tenanthall.hallticks import do_tick
from tenanthall.houses import admitted
from tenanthall.imports import imported_text
from tenanthall.moves import begun_move
from tenanthall.queues import handed_in
from tenanthall.rules import strays
from tenanthall.works import Held, Work, void_holding


def do_house(work, house, land, room):
    """A HOUSE without guests."""
    if house in work.houses:
        raise NoHall("there", house)
    work.houses[house] = (land, room, ())
    work.tell(None, "house", house)


def do_open(work, name, house, share):
    """A TENANT comes to a HOUSE."""
    if name in work.held:
        raise NoHall("there", name)
    work.houses[house] = admitted(work.house_called(house), name, share)
    work.held[name] = Held(void_holding(house))
    work.tell(None, "opened", name, house)
    work.tell(name, "opened")


def do_rule(work, rule):
    """A RULE, in the place of that of its word and land."""
    others = [other for other in work.rules if other[:2] != rule[:2]]
    work.rules = tuple(sorted(others + [rule]))
    work.tell(None, "rule", rule)
    for name in sorted(work.held):
        held = work.held[name]
        if held.move is not None and strays(held.life[0], rules=work.rules, land=work.land_of(held.move[0])) != ():
            work.break_move(name, "rule")


def do_price(work, prices):
    """PRICES, while no day was billed."""
    days = work.day()
    if days != 0:
        raise NoHall("day", days)
    work.prices = prices
    work.tell(None, "price")


def do_move(work, name, house):
    """A MOVE of a TENANT to another HOUSE, BEGUN."""
    held = work.held_by(name)
    there = work.house_called(house)
    if held.house == house:
        raise NoHall("house", house)
    if held.move is not None:
        raise NoHall("moving", name)
    share = dict(work.houses[held.house][2])[name]
    work.houses[house] = admitted(there, name, share)
    held.move = (house, begun_move(held.life[0], MANY, land=there[0], rules=work.rules))
    work.tell(None, "moving", name, house)


def do_break(work, name):
    """A MOVE BROKEN as it was asked."""
    if work.held_by(name).move is None:
        raise NoHall("still", name)
    work.break_move(name, "asked")


def do_fall(work, house):
    """A HOUSE falls: MOVES from it and to it are BROKEN, JOBS begun in it begin anew."""
    work.house_called(house)
    work.tell(None, "fell", house)
    for name in sorted(work.held):
        held = work.held[name]
        if held.move is not None and house in (held.house, held.move[0]):
            work.break_move(name, "fall")
        store, queue, tokens, owed, after = held.life
        if held.house == house and owed is not None:
            held.life = (store, queue, tokens, None, after)
            held.paid = 0
            work.tell(name, "anew", queue[0][0])


def do_save(work, name):
    """A BACKUP of now."""
    held = work.held_by(name)
    held.backup = backup_of(held.life[0], tick=work.tick)
    work.tell(None, "saved", name)


def do_restore(work, name):
    """The BACKUP, RESTORED."""
    held = work.held_by(name)
    if held.backup is None:
        raise NoHall("backup", name)
    land = work.land_of(held.house)
    store = restored(held.life[0], held.backup, tick=work.tick, land=land, rules=work.rules)
    work.break_move(name, "store")
    held.put_store(store)
    work.tell(None, "restored", name)
    work.tell(name, "restored", held.backup[0])


def do_export(work, name):
    """An EXPORT, its letters noted."""
    text = exported(work.held_by(name).life[0])
    work.note(name, "letters", len(text))
    work.tell(name, "export", text)
    work.tell(None, "exported", name, len(text))


def do_import(work, name, text):
    """A text IMPORTED."""
    held = work.held_by(name)
    land = work.land_of(held.house)
    store, pairs, loose = imported_text(held.life[0], text, tick=work.tick, land=land, rules=work.rules)
    work.break_move(name, "store")
    held.put_store(store)
    work.tell(name, "imported", pairs, loose)
    work.tell(None, "imported", name, len(pairs))


def do_correct(work, name, correction):
    """NOTES turned by a CORRECTION, and the LINES of it."""
    held = work.held_by(name)
    lines = correction_lines(held.notes, correction, work.day(), prices=work.prices, calendar=work.calendar)
    held.notes = corrected(held.notes, correction)
    held.lines = held.lines + lines
    work.tell(name, "corrected", lines)
    work.tell(None, "corrected", name, lines)


def do_job(work, name, job):
    """A JOB HANDED IN."""
    held = work.held_by(name)
    number = held.life[4]
    held.life = handed_in(held.life, job)
    work.tell(name, "took", number)


STEPS_DONE = {
    "house": do_house,
    "open": do_open,
    "rule": do_rule,
    "price": do_price,
    "move": do_move,
    "break": do_break,
    "fall": do_fall,
    "save": do_save,
    "restore": do_restore,
    "export": do_export,
    "import": do_import,
    "correct": do_correct,
    "job": do_job,
}


def do_step(work, step):
    """Do a STEP, "tick" and the STEPS of "all", too."""
    word, parts = step[0], step[1:]
    if word == "all":
        for part in parts[0]:
            do_step(work, part)
    elif word == "tick":
        do_tick(work, parts[0])
    else:
        deed = STEPS_DONE[word]
        deed(work, *parts)


def hall_step(hall, thing, *, calendar=CALENDAR):
    """(HALL, EVENTS): the HALL behind a STEP, any thing, and what it tells."""
    if not is_step(thing):
        raise NoHall("step", -1)
    work = Work(hall, calendar)
    do_step(work, thing)
    return work.as_hall(), tuple(work.events)
