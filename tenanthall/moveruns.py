"""A RUN MOVED: a TENANT alone whose STORE is moved to another land meanwhile."""

from tenanthall.alone import handed_at, life_struck, tick_begun
from tenanthall.kinds import is_deed, is_refusal
from tenanthall.moves import begun_move, broken_by, copied_on, is_left, logged, move_struck, store_there
from tenanthall.queues import life_of
from tenanthall.stores import placed_rows


class Moving:
    """A MOVE that goes on, None once it has ended, at which tick each ROW was COPIED, and then the MOVE PAPER."""

    def __init__(self, move, there, rules):
        self.move = move
        self.there = there
        self.rules = rules
        self.copied = {}
        self.paper = None

    def see(self, jobs, dones):
        """Log the DEEDS among JOBS, by their numbers, that were DONE; one that BREAKS the MOVE ends it."""
        for number, tick, told in dones:
            if self.move is not None and is_deed(jobs[number]) and not is_refusal(told):
                self.move = logged(self.move, jobs[number], told, tick=tick)
                if broken_by(jobs[number], told, land=self.there, rules=self.rules) is not None:
                    self.paper = ("broken", self.move[4])
                    self.move = None

    def end_tick(self, ahead, store, tick):
        """The STORE behind a tick's end, ahead being the one ahead of STRIKING, and whether the MOVE has SWITCHED."""
        if self.move is None:
            return store, False
        struck = move_struck(self.move, ahead, tick=tick, rules=self.rules)
        self.move = copied_on(struck, store)
        rows = placed_rows(self.move[3])
        for table, row in rows:
            self.copied.setdefault((table, row[0]), tick)
        if is_left(self.move, store):
            return store, False
        there = store_there(self.move, store)
        self.paper = ("moved", tuple([(self.copied[(table, row[0])], table, row) for table, row in rows]), self.move[4])
        self.move = None
        return there, True


def run_moved(store, share, handed, *, ticks, begin, many, land, there, rules=()):
    """(LIFE, dones, paper) of a RUN MOVED over so many ticks."""
    life = life_of(store)
    dones = []
    moving = None
    for tick in range(ticks):
        life = handed_at(life, handed, tick)
        jobs = dict(life[1])
        life, _, done = tick_begun(life, share, tick=tick, land=land, rules=rules)
        dones.extend(done)
        ahead = life[0]
        life = life_struck(life, tick=tick, rules=rules)
        if moving is not None:
            moving.see(jobs, done)
            newer, switched = moving.end_tick(ahead, life[0], tick)
            life = (newer,) + life[1:]
            land = there if switched else land
        if tick == begin:
            moving = Moving(begun_move(life[0], many, land=there, rules=rules), there, rules)
    return life, tuple(dones), None if moving is None else moving.paper
