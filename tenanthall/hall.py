"""A Hall keeps the HALL, its LOG, and the way back."""

from tenanthall.days import CALENDAR
from tenanthall.errors import NoBack, NoTenant
from tenanthall.halls import void_hall
from tenanthall.hallsteps import hall_step
from tenanthall.kinds import is_from_one, is_number
from tenanthall.sights import shape_of, sight_of

LIMIT = 200


class Hall:
    """All that is told of it hangs on its CALENDAR and the STEPS done on it."""

    def __init__(self, *, calendar=CALENDAR):
        self.calendar = calendar
        self.hall = void_hall()
        # The HALL ahead of each STEP of the LOG.
        self.past = []
        self.logged = []
        self.begun = 0
        self.ended = 0

    def step(self, thing):
        """Do a STEP, any thing; its EVENTS."""
        self.begun += 1
        try:
            return self.take(thing)
        finally:
            self.ended += 1

    def run(self, steps, *, most=LIMIT):
        """Do the first most of STEPS, one by one; how many. Where one is refused, those ahead stand."""
        self.begun += 1
        try:
            taken = steps[:most]
            for thing in taken:
                self.take(thing)
            return len(taken)
        finally:
            self.ended += 1

    def back(self, *, times=1):
        """Undo the last so many STEPS; they are told, the last one first."""
        self.begun += 1
        try:
            if not is_from_one(times) or times > len(self.logged):
                raise NoBack(times)
            return tuple([self.undone() for _ in range(times)])
        finally:
            self.ended += 1

    def take(self, thing):
        """Do a STEP within a deed; its EVENTS."""
        newer, events = hall_step(self.hall, thing, calendar=self.calendar)
        self.past.append(self.hall)
        self.hall = newer
        self.logged.append((thing, events))
        return events

    def undone(self):
        """Undo the last STEP within a deed; the STEP."""
        self.hall = self.past.pop()
        return self.logged.pop()[0]

    def now(self):
        """The HALL."""
        return self.hall

    def then(self, k):
        """The HALL behind the first k STEPS, any thing."""
        if not is_number(k) or k > len(self.logged):
            raise NoBack(k)
        return self.hall if k == len(self.past) else self.past[k]

    def steps(self):
        """The STEPS done."""
        return tuple([thing for thing, _ in self.logged])

    def log(self):
        """The LOG: pairs of a STEP and its EVENTS."""
        return tuple(self.logged)

    def admins(self):
        """The SIGHT of the ADMINS."""
        return sight_of(self.logged, None)

    def tenants(self):
        """The TENANTS, rising."""
        return tuple([name for name, _ in self.hall[4]])

    def holding(self, name):
        """The HOLDING of a TENANT, any thing."""
        for tenant, holding in self.hall[4]:
            if tenant == name:
                return holding
        raise NoTenant(name)

    def sight(self, name):
        """The SIGHT of a TENANT, any thing."""
        self.holding(name)
        return sight_of(self.logged, name)

    def shape(self, name):
        """The SHAPE of the STORE of a TENANT, any thing."""
        return shape_of(self.holding(name)[1][0])

    def told(self, name, number):
        """What a JOB told a TENANT, any thing; None where it isn't DONE, or number, any thing, is no NUMBER."""
        for event in self.sight(name):
            if event[1] == "done" and is_number(number) and event[2] == number:
                return event[3]
        return None

    def has(self, thing):
        """Whether any thing is a TENANT that is there."""
        return thing in self.tenants()

    def counts(self):
        """How many deeds were begun, and how many ended."""
        return self.begun, self.ended

    def __len__(self):
        return len(self.logged)

    def __str__(self):
        dones = [event for _, events in self.logged for event in events if event[2] == "done"]
        return f"{self.hall[0]} {len(dones)}"

    def __eq__(self, other):
        return isinstance(other, Hall) and self.hall == other.hall and self.calendar == other.calendar
