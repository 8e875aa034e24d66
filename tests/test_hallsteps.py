"""STEPS of a hall: points 69 and 70."""

import unittest

from tenanthall.hallsteps import hall_step
from tenanthall.halls import MANY, void_hall
from tenanthall.queues import life_of
from tests.hallsamples import EU, HOUSES, MUCH, OPENED, SLOW, TICK, US, done, events_of, holding_of, house_of, job, put, store_of

ROW = ("put", "emp", EU, (7,))


class Halls(unittest.TestCase):

    def test_of_nothing(self):
        self.assertEqual(void_hall(), (0, (), (), (), ()))
        self.assertEqual(MANY, 4)

    def test_by_places_and_names(self):
        told = hall_step(void_hall(), TICK)
        self.assertEqual(told, ((1, (), (), (), ()), ()))
        self.assertEqual(hall_step(calendar=(5, 4), thing=TICK, hall=void_hall()), told)
        with self.assertRaises(TypeError):
            hall_step(void_hall(), TICK, (5, 4))

    def test_rising_whatever_the_order(self):
        hall, _ = done(HOUSES[::-1] + (("open", "cy", "h", SLOW), ("open", "ann", "m", SLOW), ("open", "bob", "h", SLOW)))
        self.assertEqual([name for name, _ in hall[3]], ["h", "k", "m"])
        self.assertEqual([name for name, _ in hall[4]], ["ann", "bob", "cy"])
        self.assertEqual(house_of(hall, "h"), (EU, 99, (("bob", SLOW), ("cy", SLOW))))


class Made(unittest.TestCase):

    def test_house(self):
        hall, events = done((TICK, TICK, ("house", "h", EU, 9)))
        self.assertEqual(hall, (2, (), (), (("h", (EU, 9, ())),), ()))
        self.assertEqual(events, ((None, 2, "house", "h"),))

    def test_open(self):
        steps = HOUSES + (TICK, ("open", "ann", "h", MUCH))
        hall, _ = done(steps)
        self.assertEqual(house_of(hall, "h"), (EU, 99, (("ann", MUCH),)))
        self.assertEqual(holding_of(hall, "ann"), ("h", life_of(()), 0, None, None, (), (), ()))
        self.assertEqual(events_of(steps[:-1], steps[-1]), ((None, 1, "opened", "ann", "h"), ("ann", 1, "opened")))

    def test_a_house_and_a_tenant_of_one_name(self):
        hall, _ = done(HOUSES + (("open", "h", "h", SLOW),))
        self.assertEqual([name for name, _ in hall[4]], ["h"])

    def test_job(self):
        steps = OPENED + (put("ann", 7), put("bob", 7), job("ann", "get", "emp", 0))
        hall, events = done(steps)
        self.assertEqual(events[-3:], (("ann", 0, "took", 0), ("bob", 0, "took", 0), ("ann", 0, "took", 1)))
        self.assertEqual(holding_of(hall, "ann")[1], ((), ((0, ROW), (1, ("get", "emp", 0))), (0, 1), None, 2))
        self.assertEqual(events_of(OPENED + (put("ann", 7), TICK), put("ann", 8)), (("ann", 1, "took", 1),))


class Rules(unittest.TestCase):

    def test_a_rule_more_and_one_in_its_place(self):
        hall, events = done((("rule", ("struck", EU, 9)), TICK, ("rule", ("kept", US, 3)), ("rule", ("struck", EU, 4)),
                             ("rule", ("told", EU)), ("rule", ("struck", US, 1)), ("rule", ("told", EU))))
        self.assertEqual(hall[1], (("kept", US, 3), ("struck", EU, 4), ("struck", US, 1), ("told", EU)))
        self.assertEqual(events[:3], ((None, 0, "rule", ("struck", EU, 9)), (None, 1, "rule", ("kept", US, 3)),
                                      (None, 1, "rule", ("struck", EU, 4))))
        self.assertEqual(len(events), 6)

    def test_moves_to_where_rows_stray_now_are_broken(self):
        steps = OPENED + (put("ann", 1), put("bob", 1), ("open", "cy", "m", SLOW), TICK, ("move", "ann", "k"),
                          ("move", "bob", "k"), ("move", "cy", "k"))
        hall, events = done(steps + (("rule", ("stay", EU)),))
        self.assertEqual(events[-3:], ((None, 1, "rule", ("stay", EU)), (None, 1, "broken", "ann", "rule"),
                                       (None, 1, "broken", "bob", "rule")))
        self.assertEqual([holding_of(hall, name)[3] is None for name in ("ann", "bob", "cy")], [True, True, False])
        self.assertEqual([name for name, _ in house_of(hall, "k")[2]], ["cy"])
        self.assertEqual([name for name, _ in house_of(hall, "h")[2]], ["ann", "bob"])

    def test_other_rules_break_no_move(self):
        steps = OPENED + (put("ann", 1), TICK, ("move", "ann", "k"))
        for rule in (("stay", US), ("kept", EU, 9), ("struck", EU, 1), ("told", EU)):
            hall, events = done(steps + (("rule", rule),))
            self.assertEqual(events[-1], (None, 1, "rule", rule))
            self.assertIsNotNone(holding_of(hall, "ann")[3])

    def test_a_move_within_one_land(self):
        steps = OPENED + (("open", "cy", "h", SLOW), put("cy", 1), TICK, ("move", "cy", "m"))
        self.assertEqual(len(events_of(steps, ("rule", ("stay", EU)))), 1)

    def test_price(self):
        prices = (("room", ((0, 2),)), ("steps", ((0, 3), (5, 1))))
        hall, events = done((TICK, ("price", (("steps", ((0, 9),)),)), TICK, ("price", prices)))
        self.assertEqual(hall[2], prices)
        self.assertEqual(events, ((None, 1, "price"), (None, 2, "price")))
        self.assertEqual(done((("price", prices), ("price", ())))[0][2], ())
        # Up to the last tick of the first DAY.
        self.assertEqual(done((TICK,) * 4 + (("price", prices),))[0][2], prices)
        self.assertEqual(done((TICK,) * 6 + (("price", prices),), calendar=(7, 1))[0][2], prices)


class Moves(unittest.TestCase):
    steps = OPENED + (put("ann", 1), put("ann", 2, table="dept"), TICK)

    def test_move(self):
        hall, events = done(self.steps + (("move", "ann", "k"),))
        self.assertEqual(events[-1:], ((None, 1, "moving", "ann", "k"),))
        firsts = (("dept", 1), ("emp", 1))
        copy = (("dept", 1, (), ()), ("emp", 1, (), ()))
        self.assertEqual(holding_of(hall, "ann")[3], ("k", (4, firsts, None, copy, ())))
        self.assertEqual(house_of(hall, "k"), (US, 50, (("ann", MUCH),)))
        self.assertEqual(house_of(hall, "h")[2], (("ann", MUCH), ("bob", SLOW)))
        self.assertEqual(holding_of(hall, "ann")[0], "h")

    def test_move_of_rows_that_stay_within_their_land(self):
        steps = OPENED + (("rule", ("stay", EU)), ("open", "cy", "h", SLOW), put("cy", 1), TICK, ("move", "cy", "m"), TICK)
        self.assertEqual(done(steps)[1][-1], (None, 1, "switched", "cy", "m"))

    def test_break(self):
        steps = self.steps + (("move", "ann", "k"), TICK)
        hall, events = done(OPENED + (("move", "ann", "k"), ("break", "ann")))
        self.assertEqual(events[-1:], ((None, 0, "broken", "ann", "asked"),))
        self.assertEqual(hall, done(OPENED)[0])
        # Behind it one may begin anew.
        self.assertIsNotNone(holding_of(done(OPENED + (("move", "ann", "k"), ("break", "ann"), ("move", "ann", "k")))[0], "ann")[3])
        self.assertEqual(done(steps)[1][-1], (None, 1, "switched", "ann", "k"))

    def test_one_begun_at_once_is_copied_at_this_tick_s_end(self):
        puts = tuple(put("ann", number) for number in range(9))
        hall, events = done(OPENED + puts + (TICK, ("move", "ann", "k"), TICK, TICK))
        self.assertEqual(holding_of(hall, "ann")[3][1][2], ("emp", 7))
        hall, events = done((TICK,), hall)
        self.assertEqual(events, ((None, 3, "switched", "ann", "k"),))
        self.assertEqual((holding_of(hall, "ann")[0], holding_of(hall, "ann")[3]), ("k", None))
        self.assertEqual(len(store_of(hall, "ann")[0][2]), 9)
        self.assertEqual([name for name, _ in house_of(hall, "h")[2]], ["bob"])
        self.assertEqual([name for name, _ in house_of(hall, "k")[2]], ["ann"])


class Falls(unittest.TestCase):

    def test_of_nothing(self):
        hall, events = done(HOUSES + (("fall", "h"),))
        self.assertEqual((hall, events[-1]), (done(HOUSES)[0], (None, 0, "fell", "h")))
        hall, events = done(OPENED + (put("ann", 1), ("fall", "h")))
        self.assertEqual(hall, done(OPENED + (put("ann", 1),))[0])

    def test_begun_jobs_begin_anew(self):
        # bob is given a STEP a tick: the "get" of 2 has begun and was paid 1.
        steps = OPENED + (put("bob", 1), job("bob", "get", "emp", 0), TICK, TICK, put("ann", 1), ("fall", "h"))
        hall, events = done(steps)
        self.assertEqual(holding_of(done(steps[:-1])[0], "bob")[1:3], ((store_of(hall, "bob"), ((1, ("get", "emp", 0)),), (0, 1), 1, 2), 1))
        self.assertEqual(events[-2:], ((None, 2, "fell", "h"), ("bob", 2, "anew", 1)))
        self.assertEqual(holding_of(hall, "bob")[1:3], ((store_of(hall, "bob"), ((1, ("get", "emp", 0)),), (0, 1), None, 2), 0))
        # It begins anew, and costs all of it.
        _, events = done((TICK, TICK), hall)
        self.assertEqual([event for event in events if event[0] == "bob"], [("bob", 3, "done", 1, (1,))])
        self.assertEqual(holding_of(done((TICK, TICK), hall)[0], "bob")[5], ((0, "room", 4), (0, "steps", 3)))

    def test_the_first_one_of_a_queue(self):
        steps = OPENED + tuple(put("bob", k) for k in range(4)) + (TICK,)
        self.assertEqual(events_of(steps, ("fall", "h"))[-1], ("bob", 1, "anew", 1))

    def test_a_job_begun_but_not_paid_yet(self):
        hall, events = done(HOUSES + (("open", "ann", "h", ((0, 1), 1)), put("ann", 1), TICK, ("fall", "h")))
        self.assertEqual(events[-1], ("ann", 1, "anew", 0))
        self.assertIsNone(holding_of(hall, "ann")[1][3])
        self.assertEqual(done((("fall", "h"),), hall)[1], ((None, 1, "fell", "h"),))

    def test_moves_from_it_and_to_it(self):
        steps = OPENED + (("open", "cy", "k", SLOW), ("open", "dan", "m", SLOW), put("bob", 1), put("cy", 1), put("dan", 1),
                          job("bob", "get", "emp", 0), job("cy", "get", "emp", 0), job("dan", "get", "emp", 0), TICK, TICK)
        steps += (("move", "ann", "k"), ("move", "bob", "m"), ("move", "cy", "h"), ("move", "dan", "k"))
        self.assertEqual(events_of(steps, ("fall", "h")), (
            (None, 2, "fell", "h"), (None, 2, "broken", "ann", "fall"), (None, 2, "broken", "bob", "fall"),
            ("bob", 2, "anew", 1), (None, 2, "broken", "cy", "fall")))
        self.assertEqual(events_of(steps, ("fall", "k")), (
            (None, 2, "fell", "k"), (None, 2, "broken", "ann", "fall"), (None, 2, "broken", "cy", "fall"),
            ("cy", 2, "anew", 1), (None, 2, "broken", "dan", "fall")))
        self.assertEqual(events_of(steps, ("fall", "m")), (
            (None, 2, "fell", "m"), (None, 2, "broken", "bob", "fall"), (None, 2, "broken", "dan", "fall"),
            ("dan", 2, "anew", 1)))
        hall, _ = done(steps + (("fall", "h"),))
        self.assertEqual([[name for name, _ in house_of(hall, house)[2]] for house in "hkm"], [["ann", "bob"], ["cy", "dan"], ["dan"]])
        self.assertEqual(house_of(hall, "k")[2][1][0], "dan")

    def test_one_that_is_in_another_keeps_what_it_paid(self):
        steps = OPENED + (put("bob", 1), job("bob", "get", "emp", 0), TICK, TICK, ("move", "bob", "k"))
        hall, events = done(steps + (("fall", "k"),))
        self.assertEqual(events[-2:], ((None, 2, "fell", "k"), (None, 2, "broken", "bob", "fall")))
        self.assertEqual(holding_of(hall, "bob")[2], 1)


class Backups(unittest.TestCase):
    steps = OPENED + (put("ann", 1), put("ann", 2), TICK)

    def test_save(self):
        hall, events = done(self.steps + (("save", "ann"),))
        self.assertEqual(events[-1:], ((None, 1, "saved", "ann"),))
        self.assertEqual(holding_of(hall, "ann")[4], (1, store_of(hall, "ann")))
        newer, _ = done((put("ann", 3), TICK, ("save", "ann")), hall)
        self.assertEqual(holding_of(newer, "ann")[4], (2, store_of(newer, "ann")))

    def test_restore(self):
        steps = self.steps + (("save", "ann"), put("ann", 3), job("ann", "drop", "emp", 0), put("ann", 9, table="team"), TICK)
        hall, events = done(steps + (("restore", "ann"),))
        self.assertEqual(events[-2:], ((None, 2, "restored", "ann"), ("ann", 2, "restored", 1)))
        self.assertEqual(store_of(hall, "ann"), (("emp", 3, ((0, EU, 0, (1,)), (1, EU, 0, (2,))), ()), ("team", 1, (), ())))
        self.assertEqual(holding_of(hall, "ann")[4][0], 1)
        self.assertEqual(done((("restore", "ann"),), hall)[0], hall)

    def test_a_move_is_broken(self):
        hall, events = done(self.steps + (("save", "ann"), ("move", "ann", "k"), ("restore", "ann")))
        self.assertEqual(events[-3:], ((None, 1, "broken", "ann", "store"), (None, 1, "restored", "ann"), ("ann", 1, "restored", 1)))
        self.assertIsNone(holding_of(hall, "ann")[3])
        self.assertEqual(house_of(hall, "k")[2], ())

    def test_its_queue_stays(self):
        steps = OPENED + (put("bob", 1), TICK, ("save", "bob"), job("bob", "count", "emp", ()), TICK)
        hall, _ = done(steps)
        newer, _ = done((("restore", "bob"),), hall)
        self.assertEqual(holding_of(newer, "bob")[1], holding_of(hall, "bob")[1])
        self.assertEqual(holding_of(newer, "bob")[2], 1)


class Texts(unittest.TestCase):
    steps = OPENED + (put("ann", 1), TICK)

    def test_export(self):
        text = "table emp 1 -\n0 eu 0 / 1"
        hall, events = done(self.steps + (("export", "ann"),))
        self.assertEqual(events[-2:], (("ann", 1, "export", text), (None, 1, "exported", "ann", len(text))))
        self.assertEqual(holding_of(hall, "ann")[5], ((0, "letters", 24), (0, "room", 1), (0, "steps", 1)))
        hall, _ = done((("export", "ann"),) + (TICK,) * 4 + (("export", "ann"),), hall)
        letters = [note for note in holding_of(hall, "ann")[5] if note[1] == "letters"]
        self.assertEqual(letters, [(0, "letters", 48), (1, "letters", 24)])

    def test_export_of_nothing(self):
        hall, events = done(OPENED + (("export", "ann"),))
        self.assertEqual(events[-2:], (("ann", 0, "export", ""), (None, 0, "exported", "ann", 0)))
        self.assertEqual(holding_of(hall, "ann")[5], ())

    def test_import(self):
        text = "table emp 9 0\n3 us 4 / @emp.3 @emp.1\n8 eu 0 /\n"
        hall, events = done(self.steps + (("import", "ann", text),))
        self.assertEqual(events[-2:], (("ann", 1, "imported", (("emp", 3, 1), ("emp", 8, 2)), (("emp", 3, 1),)),
                                       (None, 1, "imported", "ann", 2)))
        self.assertEqual(store_of(hall, "ann"), (("emp", 3, ((0, EU, 0, (1,)), (1, US, 1, (("link", "emp", 1), None)),
                                                             (2, EU, 1, ())), (0,)),))

    def test_import_of_nothing(self):
        hall, events = done(self.steps + (("import", "ann", ""),))
        self.assertEqual(events[-2:], (("ann", 1, "imported", (), ()), (None, 1, "imported", "ann", 0)))
        self.assertEqual(hall, done(self.steps)[0])

    def test_a_move_is_broken_by_an_import(self):
        hall, events = done(self.steps + (("move", "ann", "k"), ("import", "ann", "")))
        self.assertEqual(events[-3:], ((None, 1, "broken", "ann", "store"), ("ann", 1, "imported", (), ()),
                                       (None, 1, "imported", "ann", 0)))
        self.assertEqual(hall, done(self.steps)[0])

    def test_other_moves_go_on(self):
        hall, events = done(self.steps + (("move", "bob", "k"), ("import", "ann", ""), ("save", "ann"), ("restore", "ann")))
        self.assertIsNotNone(holding_of(hall, "bob")[3])


class Corrections(unittest.TestCase):
    steps = (("price", (("steps", ((0, 2), (2, 10))),)),) + OPENED + (put("ann", 1),) + (TICK,) * 5 + (put("ann", 2), TICK)

    def test_of_a_day_billed(self):
        hall, events = done(self.steps + (("correct", "ann", (0, "steps", 3)),))
        lines = ((0, "steps", 3, 22),)
        self.assertEqual(events[-2:], (("ann", 6, "corrected", lines), (None, 6, "corrected", "ann", lines)))
        self.assertEqual(holding_of(hall, "ann")[6], ((0, "room", 5, 0), (0, "steps", 1, 2)) + lines)
        self.assertEqual(holding_of(hall, "ann")[5], ((0, "room", 5), (0, "steps", 4), (1, "room", 2), (1, "steps", 1)))

    def test_of_a_day_not_billed_yet(self):
        hall, events = done(self.steps + (("correct", "ann", (1, "steps", 3)), ("correct", "ann", (7, "letters", 5))))
        self.assertEqual(events[-4:], (("ann", 6, "corrected", ()), (None, 6, "corrected", "ann", ())) * 2)
        self.assertEqual(holding_of(hall, "ann")[6], ((0, "room", 5, 0), (0, "steps", 1, 2)))
        self.assertEqual(holding_of(hall, "ann")[5], ((0, "room", 5), (0, "steps", 1), (1, "room", 2), (1, "steps", 4), (7, "letters", 5)))

    def test_one_that_turns_a_later_day_billed(self):
        steps = self.steps + (TICK,) * 4
        hall, events = done(steps + (("correct", "ann", (0, "steps", 1)),))
        self.assertEqual(events[-1][-1], ((0, "steps", 1, 2), (1, "steps", 0, 8)))

    def test_by_the_calendar(self):
        hall, events = done(self.steps + (("correct", "ann", (4, "steps", 1)),), calendar=(1, 9))
        self.assertEqual(events[-1][-1], ((4, "steps", 1, 2), (5, "steps", 0, 8)))


class Alls(unittest.TestCase):

    def test_one_by_one(self):
        steps = OPENED + (put("ann", 1), TICK, ("move", "ann", "k"), TICK, ("export", "ann"), TICK)
        self.assertEqual(done((("all", steps),)), done(steps))
        self.assertEqual(done((("all", steps[:4]), ("all", ()), ("all", steps[4:]))), done(steps))

    def test_of_nothing(self):
        hall, events = done(OPENED + (("all", ()),))
        self.assertEqual((hall, events), done(OPENED))


if __name__ == "__main__":
    unittest.main()
