"""A Hall that keeps all: points 78, 79 and 80."""

import random
import unittest

from tenanthall.errors import NoBack, NoHall, NoTenant, NoText
from tenanthall.hall import LIMIT, Hall
from tenanthall.halls import void_hall
from tenanthall.hallsteps import hall_step
from tests.hallsamples import EU, HOUSES, MUCH, OPENED, SLOW, TICK, done, holding_of, job, put, some_step
from tests.samples import kept_whole, refusal

NO_NAMES = ("zz", "h", "", "Ann", None, True, False, 0, 1, -1, (), ("ann",), [], ["ann"], {}, object())
NO_NUMBERS = (None, True, False, -1, "", "1", "0", (), (1,), [], [1], {}, object())
STEPS = OPENED + (put("ann", 7), job("ann", "get", "emp", 0), put("bob", 1), TICK, job("bob", "get", "emp", 0), TICK, TICK)


def hall_behind(steps=STEPS, **more):
    hall = Hall(**more)
    hall.run(steps)
    return hall


class Deeds(unittest.TestCase):

    def test_void(self):
        hall = Hall()
        self.assertEqual((hall.now(), hall.steps(), hall.log(), hall.admins(), hall.tenants()), (void_hall(), (), (), (), ()))
        self.assertEqual((len(hall), str(hall), hall.counts()), (0, "0 0", (0, 0)))

    def test_step(self):
        hall = Hall()
        for k, step in enumerate(STEPS):
            newer, events = hall_step(hall.now(), step)
            told = kept_whole(self, hall.step, step)
            self.assertEqual(repr(told), repr(events))
            self.assertEqual((hall.now(), len(hall), hall.log()[k]), (newer, k + 1, (step, events)))
        self.assertEqual(hall.steps(), STEPS)
        self.assertEqual(Hall().step(thing=TICK), ())

    def test_run(self):
        hall = Hall()
        self.assertEqual(kept_whole(self, hall.run, STEPS), len(STEPS))
        self.assertEqual(hall.now(), done(STEPS)[0])
        self.assertEqual(Hall().run((), most=9), 0)

    def test_run_with_a_most(self):
        for most in (0, 1, 4, len(STEPS) - 1, len(STEPS), len(STEPS) + 1, 10 ** 90):
            hall = Hall()
            told = min(most, len(STEPS))
            self.assertEqual(hall.run(most=most, steps=STEPS), told)
            self.assertEqual(hall.steps(), STEPS[:told])
        # What is behind them isn't looked at.
        self.assertEqual(Hall().run((TICK, None, "x"), most=1), 1)
        with self.assertRaises(TypeError):
            Hall().run(STEPS, 4)

    def test_limit(self):
        self.assertEqual(LIMIT, 200)
        for many, told in ((199, 199), (200, 200), (201, 200), (500, 200)):
            hall = Hall()
            self.assertEqual(hall.run((TICK,) * many), told)
            self.assertEqual(hall.now()[0], told)

    def test_refused_steps(self):
        hall = hall_behind()
        ahead = (hall.now(), hall.log())
        thing = ("move", "ann", "nohouse")
        self.assertIs(refusal(self, NoHall, hall.step, thing)["at"], thing[2])
        for error, thing in ((NoHall, None), (NoHall, STEPS[0]), (NoTenant, ("save", "zz")), (NoText, ("import", "ann", "x")),
                             (NoHall, ("all", (TICK, ("fall", "x"))))):
            refusal(self, error, hall.step, thing)
        self.assertEqual((hall.now(), hall.log()), ahead)

    def test_refused_runs(self):
        hall = Hall()
        fields = refusal(self, NoTenant, hall.run, HOUSES + (TICK, ("save", "ann"), TICK))
        self.assertEqual(fields, {"name": "ann"})
        self.assertEqual(hall.steps(), HOUSES + (TICK,))
        self.assertEqual(hall.now(), done(HOUSES + (TICK,))[0])

    def test_calendar(self):
        hall = Hall(calendar=(1, 9))
        hall.run(HOUSES + (("open", "ann", "h", MUCH), TICK))
        self.assertEqual(hall.log()[-1][1], (("ann", 0, "bill", 0, ()), (None, 0, "bill", "ann", 0, ())))
        self.assertEqual(refusal(self, NoHall, hall.step, ("price", ())), {"word": "day", "at": 1})
        with self.assertRaises(TypeError):
            Hall((1, 9))


class Back(unittest.TestCase):

    def test_one_and_several(self):
        hall = hall_behind()
        self.assertEqual(hall.back(), STEPS[:-2:-1])
        self.assertEqual(hall.back(times=3), (STEPS[-2], STEPS[-3], STEPS[-4]))
        self.assertEqual((hall.steps(), hall.now()), (STEPS[:-4], done(STEPS[:-4])[0]))
        self.assertEqual(hall.back(times=len(hall)), STEPS[:-4][::-1])
        self.assertEqual((hall.now(), hall.log()), (void_hall(), ()))

    def test_done_again_it_is_the_same(self):
        hall = hall_behind()
        ahead = (hall.now(), hall.log())
        hall.run(hall.back(times=7)[::-1])
        self.assertEqual((hall.now(), hall.log()), ahead)

    def test_refused(self):
        hall = hall_behind()
        ahead = (hall.now(), hall.log())
        for times in NO_NUMBERS + (0, len(STEPS) + 1, 10 ** 90):
            self.assertIs(refusal(self, NoBack, hall.back, times=times)["times"], times)
        self.assertEqual((hall.now(), hall.log()), ahead)
        self.assertEqual(refusal(self, NoBack, Hall().back), {"times": 1})
        with self.assertRaises(TypeError):
            hall.back(1)

    def test_what_was_undone_is_not_told(self):
        hall = hall_behind()
        self.assertEqual(hall.told("ann", 1), (7,))
        hall.back(times=4)
        self.assertIsNone(hall.told("ann", 1))
        self.assertEqual(str(hall), "0 0")


class Told(unittest.TestCase):

    def test_then(self):
        hall = hall_behind()
        for k in range(len(STEPS) + 1):
            self.assertEqual(hall.then(k=k), done(STEPS[:k])[0])
        for k in NO_NUMBERS + (len(STEPS) + 1, 10 ** 90):
            self.assertIs(refusal(self, NoBack, hall.then, k)["times"], k)
        self.assertEqual(Hall().then(0), void_hall())
        self.assertEqual(refusal(self, NoBack, Hall().then, 1), {"times": 1})

    def test_log_steps_and_sights(self):
        hall = hall_behind()
        events = done(STEPS)[1]
        self.assertEqual(tuple(event for _, told in hall.log() for event in told), events)
        self.assertEqual(hall.admins(), tuple(event[1:] for event in events if event[0] is None))
        for name in ("ann", "bob"):
            self.assertEqual(hall.sight(name=name), tuple(event[1:] for event in events if event[0] == name))
        for told in (hall.log(), hall.steps(), hall.admins(), hall.tenants(), hall.sight("ann"), hall.shape("ann")):
            self.assertIs(told.__class__, tuple)

    def test_tenants(self):
        hall = Hall()
        hall.run(HOUSES + tuple(("open", name, "h", SLOW) for name in ("cy", "ann", "bob")))
        self.assertEqual(hall.tenants(), ("ann", "bob", "cy"))
        for name in hall.tenants():
            self.assertIs(hall.has(thing=name), True)
        for thing in NO_NAMES + (hall, Hall()):
            self.assertIs(hall.has(thing), False)

    def test_holdings_and_shapes(self):
        hall = hall_behind()
        for name in ("ann", "bob"):
            self.assertEqual(hall.holding(name=name), holding_of(done(STEPS)[0], name))
        self.assertEqual(hall.shape(name="ann"), (("emp", 1, 1, ()),))
        hall.step(("open", "cy", "h", SLOW))
        self.assertEqual(hall.shape("cy"), ())

    def test_no_tenants(self):
        hall = hall_behind()
        for name in NO_NAMES + (hall,):
            for call, more in ((hall.holding, ()), (hall.sight, ()), (hall.shape, ()), (hall.told, (0,)), (hall.told, (None,))):
                self.assertIs(refusal(self, NoTenant, call, name, *more)["name"], name)

    def test_jobs_done(self):
        hall = hall_behind()
        self.assertEqual([hall.told("ann", number) for number in range(3)], [0, (7,), None])
        self.assertEqual(hall.told(number=0, name="bob"), 0)
        hall = hall_behind(OPENED + (job("ann", "index", "emp", 0), put("ann", None), job("ann", "set", "emp", 0, 0, None),
                                     job("ann", "get", "emp", 7), job("ann", "rows", "emp", (), 9), TICK, put("ann", 1)))
        told = [hall.told("ann", number) for number in range(6)]
        self.assertEqual(told, [True, 0, None, ("no", "row"), (0,), None])
        self.assertIs(told[0], True)

    def test_jobs_that_are_not_done_and_any_thing(self):
        hall = hall_behind()
        for number in NO_NUMBERS + (2, 99, 10 ** 90):
            self.assertIsNone(hall.told("ann", number))
        # bob's "get" is paid 1 of 2 STEPS.
        hall.back()
        self.assertIsNone(hall.told("bob", 1))

    def test_str(self):
        for k, text in ((0, "0 0"), (5, "0 0"), (8, "0 0"), (9, "1 3"), (10, "1 3"), (11, "2 3"), (12, "3 4")):
            self.assertEqual(str(hall_behind(STEPS[:k])), text)

    def test_refused_jobs_are_done_too(self):
        self.assertEqual(str(hall_behind(OPENED + (job("ann", "get", "zz", 0), job("ann", "drop", "zz", 0), TICK))), "1 2")


class Equal(unittest.TestCase):

    def test_of_the_same_hall_and_calendar(self):
        hall = hall_behind()
        other = Hall()
        for step in STEPS:
            other.step(step)
        self.assertTrue(hall == other and not hall != other)
        other.step(TICK)
        self.assertTrue(hall != other and not hall == other)
        other.back()
        self.assertTrue(hall == other)
        # How it came to be so is no matter.
        self.assertTrue(hall_behind((("all", STEPS),)) == hall)
        self.assertEqual(hall, hall_behind(calendar=(5, 4)))
        self.assertFalse(hall_behind(calendar=(7, 4)) == hall)
        self.assertFalse(Hall(calendar=(5, 5)) == Hall())

    def test_things_of_all_kinds(self):
        hall = Hall()
        for thing in NO_NAMES + (void_hall(), "0 0", [hall], (hall,)):
            self.assertIs(hall == thing, False)
            self.assertIs(thing == hall, False)
            self.assertIs(hall != thing, True)


class Counts(unittest.TestCase):

    def test_deeds_alone(self):
        hall = Hall()
        hall.run(STEPS)
        self.assertEqual(hall.counts(), (1, 1))
        hall.step(TICK)
        hall.back(times=2)
        self.assertEqual(hall.counts(), (3, 3))
        hall.run(())
        self.assertEqual(hall.counts(), (4, 4))
        for told in (hall.now, hall.steps, hall.log, hall.admins, hall.tenants, hall.counts, lambda: hall.then(1),
                     lambda: hall.sight("ann"), lambda: hall.told("ann", 0), lambda: hall.has("ann"), lambda: len(hall), lambda: str(hall)):
            told()
        self.assertEqual(hall.counts(), (4, 4))

    def test_whatever_is_refused(self):
        hall = hall_behind()
        refusal(self, NoHall, hall.step, None)
        refusal(self, NoTenant, hall.run, (TICK, TICK, ("save", "zz")))
        refusal(self, NoBack, hall.back, times=0)
        refusal(self, NoBack, hall.back, times=[])
        refusal(self, NoBack, hall.then, -1)
        refusal(self, NoTenant, hall.sight, None)
        self.assertEqual(hall.counts(), (5, 5))


class Any(unittest.TestCase):

    def test_as_step_by_step(self):
        chance = random.Random(78)
        done_ones = 0
        for _ in range(40):
            hall, halls, log = Hall(), [void_hall()], []
            for step in list(OPENED) + [some_step(chance) for _ in range(60)]:
                try:
                    newer, events = hall_step(halls[-1], step)
                except (NoHall, NoTenant, NoText) as refused:
                    self.assertEqual(refusal(self, refused.__class__, hall.step, step), vars(refused))
                    continue
                self.assertEqual(hall.step(step), events)
                halls.append(newer)
                log.append((step, events))
                if chance.random() < 0.1:
                    times = chance.randrange(min(3, len(log))) + 1
                    self.assertEqual(hall.back(times=times), tuple(step for step, _ in log[-times:])[::-1])
                    del halls[-times:], log[-times:]
            self.assertEqual(hall.log(), tuple(log))
            self.assertEqual([hall.then(k) for k in range(len(hall) + 1)], halls)
            self.assertEqual(hall_behind(hall.steps()), hall)
            self.assertEqual(hall.then(len(hall)), hall.now())
            begun, ended = hall.counts()
            self.assertEqual(begun, ended)
            done_ones += len(log)
        self.assertGreater(done_ones, 800)


if __name__ == "__main__":
    unittest.main()
