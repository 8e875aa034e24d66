"""What a hall refuses, and which refusal goes first: point 72."""

import unittest

from tenanthall.errors import NoHall, NoTenant, NoText
from tests.hallsamples import EU, HOUSES, MUCH, OPENED, SLOW, TICK, US, done, job, put, refused

NAMING = (("move", "zz", "k"), ("break", "zz"), ("save", "zz"), ("restore", "zz"), ("export", "zz"), ("import", "zz", ""),
          ("correct", "zz", (0, "steps", 1)), ("job", "zz", ("get", "emp", 0)))


class Case(unittest.TestCase):

    def hall(self, steps, last, word, at, **more):
        fields = refused(self, NoHall, steps, last, **more)
        self.assertEqual(fields, {"word": word, "at": at})

    def tenant(self, steps, last, name):
        self.assertEqual(refused(self, NoTenant, steps, last), {"name": name})


class Kinds(Case):

    def test_no_step_by_kind(self):
        for thing in (None, True, 0, -1, "tick", "", (), [], {}, ((),), ("tick",), ["tick", ()], ("tick", [("ann", 1)]),
                      ("tick", (("ann", None),)), ("tick", (("ann", -1),)), ("all", (("all", ()),)), ("all", (TICK, None)),
                      ("job", "ann", ("get", "emp", True)), ("house", "H", EU, 9), ("house", "x", EU, True),
                      ("open", "cy", "h", ((2, 4), 9)), ("rule", ("stay", EU, 1)), ("price", (("room", ()),)),
                      ("correct", "ann", (0, "steps", 0)), ("import", "ann", None), ("fall",), ("move", "ann"), ("told", "ann")):
            self.hall(OPENED, thing, "step", -1)

    def test_ahead_of_all(self):
        self.hall((), ("house", "h", EU, -1), "step", -1)
        self.hall(OPENED, ("open", "ann", "h", None), "step", -1)
        self.hall(OPENED, ("all", (("open", "ann", "h", SLOW), ("open", "ann", "h", None))), "step", -1)
        self.hall(OPENED, ("tick", (("zz", True),)), "step", -1)


class Names(Case):

    def test_house_there(self):
        self.hall(OPENED, ("house", "h", US, 0), "there", "h")
        self.hall(OPENED, ("all", (("house", "x", US, 0), ("house", "x", US, 0))), "there", "x")

    def test_tenant_there(self):
        self.hall(OPENED, ("open", "ann", "h", SLOW), "there", "ann")
        # Ahead of the HOUSE that isn't there, and of its room.
        self.hall(OPENED, ("open", "ann", "x", SLOW), "there", "ann")
        self.hall(OPENED, ("open", "bob", "m", ((1, 1), 10)), "there", "bob")

    def test_no_tenant(self):
        for step in NAMING:
            self.tenant(OPENED, step, "zz")
            # A HOUSE of this name is no TENANT.
            self.tenant(OPENED, step[:1] + ("k",) + step[2:], "k")
        self.tenant((), ("export", "ann"), "ann")
        self.tenant(OPENED, ("move", "zz", "x"), "zz")
        self.tenant(OPENED, ("import", "zz", "no text"), "zz")
        self.tenant(OPENED, ("correct", "zz", (0, "steps", -9)), "zz")

    def test_slices_of_no_tenant(self):
        self.tenant(OPENED, ("tick", (("ann", 1), ("zz", 0), ("yy", 1))), "zz")
        self.tenant((), ("tick", (("ann", 0),)), "ann")

    def test_no_house(self):
        self.hall(OPENED, ("open", "cy", "x", SLOW), "house", "x")
        self.hall(OPENED, ("move", "ann", "x"), "house", "x")
        self.hall(OPENED, ("fall", "x"), "house", "x")
        self.hall((), ("fall", "h"), "house", "h")
        self.hall(OPENED, ("fall", "ann"), "house", "ann")

    def test_its_house_already(self):
        self.hall(OPENED, ("move", "ann", "h"), "house", "h")
        # Ahead of the MOVE that goes on.
        self.hall(OPENED + (("move", "ann", "k"),), ("move", "ann", "h"), "house", "h")
        self.hall(OPENED + (("move", "ann", "k"), TICK), ("move", "ann", "k"), "house", "k")


class Moves(Case):

    def test_moving(self):
        for house in "km":
            self.hall(OPENED + (("move", "bob", "k"),), ("move", "bob", house), "moving", "bob")
        self.hall(OPENED + (("move", "bob", "k"),), ("move", "bob", "x"), "house", "x")
        # Ahead of no room, and of ROWS that stray.
        steps = (("house", "h", EU, 50), ("house", "k", US, 2), ("house", "m", US, 2), ("open", "ann", "h", MUCH), ("open", "bob", "h", SLOW),
                 put("bob", 1), TICK, ("move", "bob", "k"))
        self.hall(steps + (("open", "cy", "m", SLOW),), ("move", "bob", "m"), "moving", "bob")

    def test_no_room(self):
        self.hall(OPENED, ("open", "cy", "m", ((0, 1), 10)), "room", 1)
        self.hall(OPENED, ("open", "cy", "h", ((0, 1), 99)), "room", 42)
        self.hall(OPENED, ("move", "ann", "m"), "room", 31)
        self.hall(OPENED, ("open", "cy", "h", ((1, 1), 10 ** 90)), "room", 10 ** 90 - 57)
        # A MOVE takes room there, too, while it goes on.
        self.hall(OPENED + (("move", "ann", "k"),), ("open", "cy", "k", ((0, 1), 11)), "room", 1)
        self.assertEqual(len(done(OPENED + (("move", "ann", "k"), ("break", "ann"), ("open", "cy", "k", ((0, 1), 50))))[0][4]), 3)

    def test_strays_there(self):
        steps = OPENED + (("rule", ("stay", EU)), put("ann", 1), put("ann", 2, land=US), put("ann", 3, table="dept"), TICK)
        self.hall(steps, ("move", "ann", "k"), "stay", (("dept", 0), ("emp", 0)))
        # Ahead of them no room.
        self.hall(steps[:1] + (("house", "k", US, 39),) + steps[2:], ("move", "ann", "k"), "room", 1)

    def test_still(self):
        self.hall(OPENED, ("break", "ann"), "still", "ann")
        self.hall(OPENED + (("move", "ann", "k"), TICK), ("break", "ann"), "still", "ann")
        self.hall(OPENED + (("move", "ann", "k"),), ("break", "bob"), "still", "bob")


class Others(Case):

    def test_price_behind_the_first_day(self):
        price = ("price", ())
        self.hall((TICK,) * 5, price, "day", 1)
        self.hall((TICK,) * 14, price, "day", 2)
        self.hall((TICK,), price, "day", 1, calendar=(1, 1))

    def test_restore(self):
        self.hall(OPENED, ("restore", "ann"), "backup", "ann")
        steps = OPENED + (put("ann", 1), put("ann", 2, land=US), TICK, ("save", "ann"), put("ann", 3), TICK)
        self.hall(steps + (("rule", ("kept", EU, 9)),), ("restore", "ann"), "kept", (("emp", 2),))
        self.hall(steps + (("rule", ("kept", EU, 9)), ("rule", ("stay", US))), ("restore", "ann"), "kept", (("emp", 2),))
        self.hall(steps + (("rule", ("stay", US)),), ("restore", "ann"), "stay", (("emp", 1),))

    def test_refused_a_move_goes_on(self):
        steps = OPENED + (put("ann", 1), TICK, ("rule", ("stay", "zz")), ("move", "ann", "k"))
        self.hall(steps, ("restore", "ann"), "backup", "ann")
        self.hall(steps, ("import", "ann", "table emp 1 -\n0 zz 0 /"), "stay", (("emp", 0),))
        self.assertEqual(refused(self, NoText, steps, ("import", "ann", "x")), {"line": 0, "word": 0})

    def test_import(self):
        self.assertEqual(refused(self, NoText, OPENED, ("import", "ann", "table emp 1 -\n0 eu x /")), {"line": 1, "word": 2})
        text = "table emp 3 -\n0 zz 0 /\n2 zz 0 / @emp.9"
        self.hall(OPENED + (("rule", ("stay", "zz")),), ("import", "ann", text), "stay", (("emp", 0), ("emp", 2)))
        fields = refused(self, NoText, OPENED + (("rule", ("stay", "zz")),), ("import", "ann", text + "\n"  "\n"))
        self.assertEqual(fields, {"line": 3, "word": 0})

    def test_correct(self):
        steps = OPENED + (put("ann", 1), TICK)
        self.hall(steps, ("correct", "ann", (0, "steps", -2)), "units", (0, "steps"))
        self.hall(steps, ("correct", "ann", (7, "room", -1)), "units", (7, "room"))
        self.assertEqual(done((("correct", "ann", (0, "steps", -1)),), done(steps)[0])[1][0][2], "corrected")


class Alls(Case):

    def test_refused_in_its_middle(self):
        # What was done ahead of it within is undone.
        for last, word, at in ((("house", "h", EU, 1), "there", "h"), (("break", "ann"), "still", "ann"), (("fall", "x"), "house", "x")):
            self.hall(OPENED, ("all", (put("ann", 1), TICK, ("save", "ann"), last, ("house", "k", EU, 0))), word, at)
        self.tenant(OPENED, ("all", (TICK, ("tick", (("zz", 1),)), ("fall", "x"))), "zz")
        self.assertEqual(refused(self, NoText, OPENED, ("all", (TICK, ("import", "ann", " "), ("export", "zz")))), {"line": 0, "word": 0})

    def test_by_the_hall_as_it_is_then(self):
        self.hall((), ("all", HOUSES + (("open", "ann", "h", MUCH), ("move", "ann", "k"), ("move", "ann", "m"))), "moving", "ann")
        self.hall((), ("all", (TICK,) * 5 + (("price", ()),)), "day", 1)
        self.assertEqual(done((("all", OPENED + (job("ann", "get", "emp", 0), TICK)),))[0][0], 1)

    def test_the_same_things_are_kept(self):
        step = ("open", "cy", "nohouse", SLOW)
        fields = refused(self, NoHall, OPENED, ("all", (TICK, step)))
        self.assertIs(fields["at"], step[2])


if __name__ == "__main__":
    unittest.main()
