"""The STEP "tick": point 71."""

import unittest

from tests.hallsamples import EU, HOUSES, MUCH, OPENED, SLOW, TICK, US, done, events_of, holding_of, house_of, job, put, store_of

PRICES = ("price", (("room", ((0, 2),)), ("steps", ((0, 1), (5, 10)))))


class Dones(unittest.TestCase):

    def test_each_job_done(self):
        steps = OPENED + (put("ann", 7), job("ann", "get", "emp", 0), job("ann", "get", "emp", 1))
        hall, events = done(steps + (TICK,))
        self.assertEqual(events[-3:], (("ann", 0, "done", 0, 0), ("ann", 0, "done", 1, (7,)), ("ann", 0, "done", 2, ("no", "row"))))
        self.assertEqual(hall[0], 1)
        self.assertEqual(holding_of(hall, "ann")[1:3], ((store_of(hall, "ann"), (), (36, 1), None, 3), 0))
        self.assertEqual(holding_of(hall, "ann")[5], ((0, "room", 1), (0, "steps", 4)))

    def test_without_tenants_and_houses(self):
        self.assertEqual(done((TICK, TICK))[0][0], 2)
        self.assertEqual(done(HOUSES + (TICK,))[1][3:], ())

    def test_house_by_house_slices_ahead(self):
        steps = HOUSES + (("open", "zoe", "h", MUCH), ("open", "ann", "m", MUCH), ("open", "bob", "h", MUCH[:1] + (9,)),
                          ("open", "cy", "k", MUCH))
        steps = steps[:4] + steps[5:] + tuple(put(name, number) for name in ("zoe", "bob", "cy") for number in range(2))
        self.assertEqual([event[0] for event in events_of(steps, TICK)], ["bob", "bob", "zoe", "zoe", "cy", "cy"])
        for slices, order in (((("zoe", 1),), ["zoe", "bob", "bob", "zoe", "cy", "cy"]),
                              ((("cy", 1), ("zoe", 1), ("bob", 9)), ["zoe", "bob", "bob", "zoe", "cy", "cy"]),
                              ((("bob", 0), ("zoe", 2), ("zoe", 2)), ["zoe", "zoe", "bob", "bob", "cy", "cy"])):
            self.assertEqual([event[0] for event in events_of(steps, ("tick", slices))], order)
            self.assertEqual(done((("tick", slices),), done(steps)[0])[0], done((TICK,), done(steps)[0])[0])

    def test_slices_of_none_begin_a_job(self):
        hall, _ = done(OPENED + (put("ann", 1), ("tick", (("ann", 0),))))
        self.assertEqual(len(store_of(hall, "ann")), 1)

    def test_what_is_paid_over_several_ticks(self):
        # bob is given a STEP a tick; the "count" of 4 begins with no TOKENS left.
        steps = OPENED + tuple(put("bob", k) for k in range(3)) + (job("bob", "count", "emp", ()),) + (TICK,) * 3
        hall, events = done(steps)
        self.assertEqual(holding_of(hall, "bob")[1][3], 4)
        self.assertEqual(holding_of(hall, "bob")[2], 0)
        hall, events = done((TICK, TICK, TICK), hall)
        self.assertEqual(holding_of(hall, "bob")[2], 3)
        self.assertEqual([event for event in events if event[2] == "done"], [])
        hall, events = done((TICK,), hall)
        self.assertEqual(events, (("bob", 6, "done", 3, 3),))
        self.assertEqual(holding_of(hall, "bob")[5], ((0, "room", 12), (0, "steps", 3), (1, "room", 6), (1, "steps", 4)))

    def test_its_measure_is_that_of_its_beginning(self):
        # It begins with two ROWS; an IMPORT brings more of them, the JOB costs 3 still.
        steps = OPENED + (put("bob", 1), put("bob", 2), job("bob", "count", "emp", ()), TICK, TICK)
        hall, _ = done(steps + (("import", "bob", "table emp 9 -\n0 eu 0 /\n1 eu 0 /\n2 eu 0 /"), TICK, TICK, TICK))
        self.assertEqual(holding_of(hall, "bob")[5], ((0, "room", 1 + 2 + 5 * 3), (0, "steps", 5)))
        self.assertEqual(done((TICK,), hall)[0][0], 6)

    def test_the_land_of_its_house(self):
        steps = HOUSES + (("rule", ("stay", EU)), ("rule", ("stay", US)), ("open", "ann", "h", MUCH), ("open", "bob", "k", MUCH))
        steps += tuple(put(name, land=land) for name in ("ann", "bob") for land in (EU, US))
        told = [event[4] for event in events_of(steps, TICK)]
        self.assertEqual(told, [0, ("no", "stay"), ("no", "stay"), 0])

    def test_one_tenant_in_two_houses(self):
        # It moves: it is a guest in both, and has a TICK in its own alone.
        steps = OPENED + tuple(put("bob", k) for k in range(9)) + (TICK, ("move", "bob", "k"), TICK)
        self.assertEqual([event for event in events_of(steps, TICK) if event[2] == "done"], [("bob", 2, "done", 2, 2)])


class Books(unittest.TestCase):
    steps = OPENED + (("rule", ("told", EU)), put("ann", 1), put("ann", 2, land=US), put("ann", ("link", "emp", 0)), TICK)

    def test_asks_whose_rows_are_told(self):
        jobs = (job("ann", "rows", "emp", (), 9), job("ann", "get", "emp", 1), job("ann", "get", "emp", 2),
                job("ann", "follow", "emp", 2, 0), job("ann", "count", "emp", ()), job("ann", "follow", "emp", 1, 0))
        hall, _ = done(self.steps + jobs + (TICK,))
        self.assertEqual(holding_of(hall, "ann")[7], ((1, "emp", 0), (1, "emp", 2), (1, "emp", 2), (1, "emp", 0)))

    def test_by_the_store_as_it_was_then(self):
        jobs = (job("ann", "get", "emp", 0), job("ann", "drop", "emp", 0), job("ann", "get", "emp", 0))
        hall, _ = done(self.steps + jobs + (TICK,))
        self.assertEqual(holding_of(hall, "ann")[7], ((1, "emp", 0),))
        self.assertEqual(holding_of(done((job("ann", "get", "emp", 2), TICK, TICK), hall)[0], "ann")[7], ((1, "emp", 0), (2, "emp", 2)))

    def test_deeds_show_nothing(self):
        hall, _ = done(self.steps + (job("ann", "set", "emp", 0, 0, 9), job("ann", "add", "emp", 0, 0, 9), TICK))
        self.assertEqual(holding_of(hall, "ann")[7], ())

    def test_of_each_tenant_its_own(self):
        hall, _ = done(self.steps + (job("ann", "get", "emp", 0), TICK))
        self.assertEqual(holding_of(hall, "bob")[7], ())


class Struck(unittest.TestCase):
    steps = OPENED + (("rule", ("struck", EU, 2)), put("bob", 0), put("ann", 1), put("ann", 2, land=US), put("ann", 3, table="dept"), TICK)

    def test_told_tenant_by_tenant(self):
        self.assertEqual(events_of(self.steps, TICK), ())
        hall, events = done(self.steps + (TICK, TICK))
        self.assertEqual(events[-3:], (("ann", 2, "struck", "dept", 0), ("ann", 2, "struck", "emp", 0), ("bob", 2, "struck", "emp", 0)))
        self.assertEqual(store_of(hall, "ann"), (("dept", 1, (), ()), ("emp", 2, ((1, US, 0, (2,)),), ())))
        self.assertEqual(holding_of(hall, "ann")[5], ((0, "room", 3 + 3 + 1), (0, "steps", 3)))

    def test_behind_all_that_is_done(self):
        steps = self.steps + (TICK, job("bob", "get", "emp", 0), job("ann", "count", "emp", ()))
        _, events = done(steps + (TICK,))
        self.assertEqual([event[2] for event in events[-5:]], ["done", "done", "struck", "struck", "struck"])
        self.assertEqual(events[-4:-3], (("bob", 2, "done", 1, (0,)),))

    def test_backups_too(self):
        hall, _ = done(self.steps + (("save", "ann"), TICK, TICK))
        self.assertEqual(holding_of(hall, "ann")[4], (1, store_of(hall, "ann")))
        # What was struck comes back by no BACKUP.
        self.assertEqual(done((("restore", "ann"),), hall)[0], hall)

    def test_a_backup_of_this_very_tick(self):
        hall, _ = done(self.steps + (TICK, ("save", "ann")))
        self.assertEqual(len(holding_of(hall, "ann")[4][1][0][2]), 1)
        hall, _ = done((TICK,), hall)
        self.assertEqual(holding_of(hall, "ann")[4], (2, store_of(hall, "ann")))

    def test_kept_rows_are_not(self):
        hall, events = done(self.steps + (("rule", ("kept", EU, 4)), TICK, TICK, TICK))
        self.assertEqual([event for event in events if event[2] == "struck"], [])
        self.assertEqual(len(done((TICK,), hall)[1]), 3 + 4)


class Moves(unittest.TestCase):
    puts = tuple(put("ann", number) for number in range(10))
    steps = OPENED + puts + (TICK, ("move", "ann", "k"))

    def test_four_at_a_tick_s_end(self):
        hall, _ = done(self.steps)
        for last in (("emp", 3), ("emp", 7)):
            hall, events = done((TICK,), hall)
            self.assertEqual((holding_of(hall, "ann")[3][1][2], events), (last, ()))
        hall, events = done((TICK,), hall)
        self.assertEqual(events, ((None, 3, "switched", "ann", "k"),))
        self.assertEqual(holding_of(hall, "ann")[:4:3], ("k", None))
        self.assertEqual((house_of(hall, "h")[2], house_of(hall, "k")[2]), ((("bob", SLOW),), (("ann", MUCH),)))

    def test_deeds_are_logged_and_led(self):
        deeds = (job("ann", "set", "emp", 9, 0, 99), job("ann", "drop", "emp", 8), put("ann", 5), job("ann", "get", "emp", 9),
                 job("ann", "drop", "emp", 8), job("ann", "index", "emp", 0))
        hall, _ = done(self.steps + deeds + (TICK,))
        log = ((1, deeds[0][2], 99), (1, deeds[1][2], True), (1, deeds[2][2], 10), (1, deeds[5][2], True))
        self.assertEqual(holding_of(hall, "ann")[3][1][4], log)
        ahead = store_of(hall, "ann")
        hall, _ = done((TICK, TICK), hall)
        self.assertEqual((holding_of(hall, "ann")[0], store_of(hall, "ann")), ("k", ahead))
        plain = done(OPENED + self.puts + (TICK,) + deeds + (TICK, TICK, TICK))[0]
        self.assertEqual(holding_of(hall, "ann")[1:], holding_of(plain, "ann")[1:])

    def test_the_land_is_there_behind_the_switch(self):
        steps = OPENED + (("rule", ("stay", US)), put("ann", 1, land=US), ("move", "ann", "k"), TICK, put("ann", 1, land=US), TICK)
        _, events = done(steps)
        self.assertEqual([event[4] for event in events if event[2] == "done"], [("no", "stay"), 0])

    def test_a_deed_that_breaks_it(self):
        # In a HOUSE of eu ROWS of eu are put, and would stray in that of us.
        steps = OPENED + (("rule", ("stay", EU)), ("move", "ann", "k"), put("ann", 1, land=US), put("ann", 2), put("ann", 3), put("bob", 1))
        hall, events = done(steps + (TICK,))
        self.assertEqual(events[-5:], (("ann", 0, "done", 0, 0), ("ann", 0, "done", 1, 1), (None, 0, "broken", "ann", "stay"),
                                       ("ann", 0, "done", 2, 2), ("bob", 0, "done", 0, 0)))
        self.assertIsNone(holding_of(hall, "ann")[3])
        self.assertEqual(house_of(hall, "k")[2], ())

    def test_one_that_is_refused_breaks_nothing(self):
        steps = HOUSES + (("open", "ann", "k", MUCH), ("rule", ("stay", EU)), ("open", "bob", "m", SLOW), ("move", "ann", "h"), put("ann", 1, land="zz"),
                          ("rule", ("stay", "zz")), put("ann", 1, land="zz"))
        hall, events = done(steps + (TICK,))
        self.assertEqual([event[2:] for event in events[-3:]], [("done", 0, ("no", "stay")), ("done", 1, ("no", "stay")), ("switched", "ann", "h")])

    def test_copy_and_log_are_struck(self):
        steps = OPENED + (("rule", ("struck", EU, 2)),) + self.puts + (TICK, ("move", "ann", "k"), put("ann", 77), TICK)
        hall, _ = done(steps)
        self.assertEqual(len(holding_of(hall, "ann")[3][1][3][0][2]), 4)
        hall, events = done((TICK,), hall)
        # All that was there goes, and nothing is LEFT; the ROW put meanwhile isn't DUE yet.
        self.assertEqual(events[-1], (None, 2, "switched", "ann", "k"))
        self.assertEqual(store_of(hall, "ann"), (("emp", 11, ((10, EU, 1, (77,)),), ()),))
        hall, _ = done(OPENED + (("rule", ("struck", US, 1)), put("ann", 1, land=US)) + self.puts * 2 +
                       (TICK, ("move", "ann", "k"), put("ann", 5, land=US), TICK, TICK))
        self.assertEqual(holding_of(hall, "ann")[3][1][4], ())

    def test_several_at_once(self):
        steps = OPENED + (put("ann", 1), put("bob", 1), TICK, ("move", "bob", "k"), ("move", "ann", "k"))
        self.assertEqual(events_of(steps, TICK), ((None, 1, "switched", "ann", "k"), (None, 1, "switched", "bob", "k")))

    def test_two_change_places(self):
        steps = (("house", "a", EU, 2), ("house", "b", US, 4), ("open", "ann", "a", SLOW), ("open", "bob", "b", SLOW),
                 ("move", "ann", "b"))
        hall, _ = done(steps + (TICK, ("move", "bob", "a"), TICK))
        self.assertEqual([(name, [guest for guest, _ in house[2]]) for name, house in hall[3]], [("a", ["bob"]), ("b", ["ann"])])


class Bills(unittest.TestCase):

    def test_at_each_day_s_end(self):
        steps = (PRICES,) + OPENED + (put("ann", 1), put("ann", 2), TICK, TICK, TICK, TICK)
        hall, events = done(steps + (TICK,))
        lines = ((0, "room", 10, 20), (0, "steps", 2, 2))
        self.assertEqual(events[-4:], (("ann", 4, "bill", 0, lines), (None, 4, "bill", "ann", 0, lines),
                                       ("bob", 4, "bill", 0, ()), (None, 4, "bill", "bob", 0, ())))
        self.assertEqual((holding_of(hall, "ann")[6], holding_of(hall, "bob")[6]), (lines, ()))
        hall, events = done((TICK,) * 5, hall)
        self.assertEqual([event[:5] for event in events], [("ann", 9, "bill", 1, ((1, "room", 10, 20),)), (None, 9, "bill", "ann", 1),
                                                            ("bob", 9, "bill", 1, ()), (None, 9, "bill", "bob", 1)])
        self.assertEqual(holding_of(hall, "ann")[6], lines + ((1, "room", 10, 20),))

    def test_by_the_calendar(self):
        _, events = done((PRICES,) + OPENED[:4] + (put("ann", 1), TICK, TICK), calendar=(1, 2))
        self.assertEqual([event for event in events if event[0] == "ann" and event[2] == "bill"],
                         [("ann", 0, "bill", 0, ((0, "room", 1, 2), (0, "steps", 1, 1))), ("ann", 1, "bill", 1, ((1, "room", 1, 2),))])

    def test_behind_what_is_struck_and_switched(self):
        steps = (PRICES, ("rule", ("struck", EU, 4))) + OPENED + (put("ann", 1), put("ann", 1, land=US), TICK, TICK, TICK, TICK, ("move", "ann", "k"))
        events = events_of(steps, TICK)
        self.assertEqual([event[2] for event in events], ["struck", "switched", "bill", "bill", "bill", "bill"])
        self.assertEqual(events[2][4], ((0, "room", 9, 18), (0, "steps", 2, 2)))

    def test_tiers_are_cumulated_by_period(self):
        steps = (PRICES,) + OPENED[:4] + tuple(step for _ in range(6) for step in (put("ann", 1), TICK, TICK, TICK, TICK, TICK))
        hall, _ = done(steps, calendar=(5, 4))
        self.assertEqual([line[3] for line in holding_of(hall, "ann")[6] if line[1] == "steps"], [1, 1, 1, 1, 1, 1])
        hall, _ = done(steps, calendar=(5, 40))
        self.assertEqual([line[3] for line in holding_of(hall, "ann")[6] if line[1] == "steps"], [1, 1, 1, 1, 1, 10])

    def test_what_is_done_on_the_last_tick_is_billed_then(self):
        steps = (PRICES,) + OPENED[:4] + (TICK,) * 4 + (put("ann", 1), ("export", "ann"))
        self.assertEqual(events_of(steps, TICK)[1][4], ((0, "room", 1, 2), (0, "steps", 1, 1)))


if __name__ == "__main__":
    unittest.main()
