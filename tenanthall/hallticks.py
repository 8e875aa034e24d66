"""The STEP "tick": a TICK of all HOUSES, and all that comes at its end."""

from tenanthall.alone import life_grown, life_struck
from tenanthall.backups import backup_struck
from tenanthall.bills import bill_of
from tenanthall.houses import left
from tenanthall.kinds import is_ask, is_refusal
from tenanthall.moves import broken_by, copied_on, is_left, logged, move_struck, store_there
from tenanthall.queues import first_sliced
from tenanthall.rules import due_rows
from tenanthall.showing import book_with
from tenanthall.slices import in_order
from tenanthall.stores import many_rows


def do_tick(work, slices):
    """A TICK of each HOUSE, then the tick's end of each TENANT."""
    for name, _ in slices:
        work.held_by(name)
    for house in sorted(work.houses):
        tick_in(work, house, slices)
    for name in sorted(work.held):
        end_tick(work, name)
    work.tick += 1


def tick_in(work, house, slices):
    """A TICK of those guests that are in a HOUSE, but that nothing is STRUCK yet."""
    shares = {name: share for name, share in work.houses[house][2] if work.held[name].house == house}
    for name in shares:
        held = work.held[name]
        held.life = life_grown(held.life, shares[name])
    for name, many in in_order([part for part in slices if part[0] in shares], sorted(shares)):
        give(work, name, many)


def give(work, name, many):
    """Give a SLICE to a TENANT, and see to each JOB DONE."""
    held = work.held[name]
    land = work.land_of(held.house)
    while held.life[1] != ():
        store, job = held.life[0], held.life[1][0][1]
        held.life, given, done = first_sliced(held.life, many, tick=work.tick, land=land, rules=work.rules)
        held.paid += given
        many = None if many is None else many - given
        if done is None:
            break
        see_done(work, name, store, job, done)


def see_done(work, name, store, job, done):
    """Tell of a JOB DONE, note and log it; store is the one ahead of it."""
    held = work.held[name]
    number, tick, told = done
    work.tell(name, "done", number, told)
    # All of its MEASURE is paid now.
    work.note(name, "steps", held.paid)
    held.paid = 0
    if is_ask(job):
        held.book = book_with(held.book, store, job, told, rules=work.rules, tick=tick)
    elif held.move is not None and not is_refusal(told):
        see_deed(work, name, job, told)


def see_deed(work, name, deed, told):
    """Log a DEED in the MOVE of a TENANT, or break this."""
    held = work.held[name]
    there, move = held.move
    if broken_by(deed, told, land=work.land_of(there), rules=work.rules) is not None:
        work.break_move(name, "stay")
    else:
        held.move = (there, logged(move, deed, told, tick=work.tick))


def end_tick(work, name):
    """The tick's end of a TENANT."""
    held = work.held[name]
    ahead = held.life[0]
    for table, number in due_rows(ahead, rules=work.rules, tick=work.tick):
        work.tell(name, "struck", table, number)
    held.life = life_struck(held.life, tick=work.tick, rules=work.rules)
    if held.backup is not None:
        held.backup = backup_struck(held.backup, tick=work.tick, rules=work.rules)
    if held.move is not None:
        move_on(work, name, ahead)
    work.note(name, "room", many_rows(held.life[0]))
    if (work.tick + 1) % work.calendar[0] == 0:
        bill(work, name)


def move_on(work, name, ahead):
    """Strike and copy the MOVE of a TENANT, by its STORE ahead of STRIKING; where nothing is LEFT it SWITCHES."""
    held = work.held[name]
    there, move = held.move
    store = held.life[0]
    move = copied_on(move_struck(move, ahead, tick=work.tick, rules=work.rules), store)
    held.move = (there, move)
    if not is_left(move, store):
        held.put_store(store_there(move, store))
        work.houses[held.house] = left(work.houses[held.house], name)
        held.house = there
        held.move = None
        work.tell(None, "switched", name, there)


def bill(work, name):
    """Bill this DAY of a TENANT."""
    held = work.held[name]
    day = work.day()
    lines = bill_of(held.notes, day, prices=work.prices, calendar=work.calendar)
    held.lines = held.lines + lines
    work.tell(name, "bill", day, lines)
    work.tell(None, "bill", name, day, lines)
