"""A HALL while a STEP is done: a copy of its own, so that whatever is refused leaves the HALL as it was."""

from tenanthall.days import day_of, noted
from tenanthall.errors import NoHall, NoTenant
from tenanthall.houses import left
from tenanthall.queues import life_of


def void_holding(house):
    """The HOLDING of a TENANT that comes to a HOUSE, its STORE ()."""
    return house, life_of(()), 0, None, None, (), (), ()


class Held:
    """A HOLDING while a STEP is done."""

    def __init__(self, holding):
        self.house, self.life, self.paid, self.move, self.backup, self.notes, self.lines, self.book = holding

    def as_holding(self):
        """The HOLDING as it is."""
        return self.house, self.life, self.paid, self.move, self.backup, self.notes, self.lines, self.book

    def put_store(self, store):
        """Let its STORE be another one."""
        self.life = (store,) + self.life[1:]


class Work:
    """A HALL while a STEP is done, and the EVENTS that were told."""

    def __init__(self, hall, calendar):
        self.tick, self.rules, self.prices, houses, holdings = hall
        self.calendar = calendar
        self.houses = dict(houses)
        self.held = {name: Held(holding) for name, holding in holdings}
        self.events = []

    def as_hall(self):
        """The HALL as it is."""
        houses = [(name, self.houses[name]) for name in sorted(self.houses)]
        holdings = [(name, self.held[name].as_holding()) for name in sorted(self.held)]
        return self.tick, self.rules, self.prices, tuple(houses), tuple(holdings)

    def tell(self, who, *words):
        """Tell an EVENT to a TENANT or to None, the ADMINS."""
        self.events.append((who, self.tick) + words)

    def day(self):
        """The DAY of its tick."""
        return day_of(self.tick, calendar=self.calendar)

    def held_by(self, name):
        """What a TENANT holds; refused where there is none of this name."""
        if name not in self.held:
            raise NoTenant(name)
        return self.held[name]

    def house_called(self, name):
        """The HOUSE of this name; refused where there is none."""
        if name not in self.houses:
            raise NoHall("house", name)
        return self.houses[name]

    def land_of(self, house):
        """The land of a HOUSE."""
        return self.houses[house][0]

    def note(self, name, kind, units):
        """Note so many units more of a TENANT, on this DAY."""
        held = self.held[name]
        held.notes = noted(held.notes, self.day(), kind, units)

    def break_move(self, name, why):
        """Break the MOVE of a TENANT, where one goes on."""
        held = self.held[name]
        if held.move is not None:
            there = held.move[0]
            self.houses[there] = left(self.houses[there], name)
            held.move = None
            self.tell(None, "broken", name, why)
