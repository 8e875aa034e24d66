"""LIVES and SLICES: points 5, 26 and 27."""

import random
import unittest

from tenanthall.measures import measure_of
from tenanthall.queues import handed_in, life_of, sliced
from tenanthall.tokens import NOUGHT
from tests.model import job_done, some_job, some_store
from tests.samples import STORE, kept_whole

EU = "eu"
PUT, GET, COUNT = ("put", "emp", EU, (1,)), ("get", "emp", 3), ("count", "emp", ())


def life_with(*jobs, store=STORE, tokens=NOUGHT):
    life = life_of(store)
    for job in jobs:
        life = handed_in(life, job)
    return life[:2] + (tokens,) + life[3:]


def given(life, many=None, tick=6, **more):
    return sliced(life, many, tick=tick, land=EU, **more)


class Lives(unittest.TestCase):

    def test_at_the_beginning(self):
        for store in ((), STORE):
            self.assertEqual(kept_whole(self, life_of, store), (store, (), (0, 1), None, 0))
        self.assertEqual(life_of(store=STORE)[0], STORE)

    def test_handed_in(self):
        life = kept_whole(self, handed_in, life_of(STORE), PUT)
        self.assertEqual(life, (STORE, ((0, PUT),), (0, 1), None, 1))
        life = handed_in(job=GET, life=life)
        self.assertEqual(life, (STORE, ((0, PUT), (1, GET)), (0, 1), None, 2))
        life = (STORE, ((4, GET),), (5, 2), 1, 7)
        self.assertEqual(handed_in(life, PUT), (STORE, ((4, GET), (7, PUT)), (5, 2), 1, 8))
        self.assertEqual(handed_in((STORE, (), (5, 2), None, 7), PUT), (STORE, ((7, PUT),), (5, 2), None, 8))


class Slices(unittest.TestCase):

    def given(self, life, many=None, **more):
        return kept_whole(self, lambda life: given(life, many, **more), life)

    def test_nothing_in_the_queue(self):
        for many in (None, 0, 3):
            for tokens in (NOUGHT, (7, 2)):
                life = life_with(tokens=tokens)
                self.assertEqual(self.given(life, many), (life, 0, ()))

    def test_all_that_there_is(self):
        # 1 STEP, then 2, then 4: the ROW that was put is looked at, too.
        life = life_with(PUT, GET, COUNT, tokens=(29, 4))
        newer, steps, dones = self.given(life)
        self.assertEqual(steps, 7)
        self.assertEqual(dones, ((0, 6, 5), (1, 6, (None, -2)), (2, 6, 3)))
        self.assertEqual(newer[1:], ((), (1, 4), None, 3))
        self.assertEqual(newer[0][1][1], 6)

    def test_by_their_places_and_names(self):
        life = life_with(GET, tokens=(3, 1))
        told = given(life, 1)
        self.assertEqual(sliced(rules=(), land=EU, tick=6, many=1, life=life), told)
        with self.assertRaises(TypeError):
            sliced(life, 1, 6, EU)

    def test_slices_of_few_and_of_more_than_there_is(self):
        life = life_with(PUT, GET, COUNT, tokens=(9, 1))
        for many, owed, done in ((1, 2, 1), (2, 1, 1), (3, 4, 2), (4, 3, 2), (6, 1, 2), (7, None, 3), (8, None, 3), (10 ** 90, None, 3)):
            newer, steps, dones = self.given(life, many)
            self.assertEqual((steps, newer[3], len(dones)), (min(many, 7), owed, done))
            self.assertEqual(newer[2], (9 - min(many, 7), 1))
            self.assertEqual(len(newer[1]), 3 - done)

    def test_slices_of_none(self):
        # Nothing is paid, and still the JOB BEGINS.
        life = life_with(GET, PUT, tokens=(9, 1))
        newer = life[:3] + (2, 2)
        self.assertEqual(self.given(life, 0), (newer, 0, ()))
        self.assertEqual(self.given(newer, 0), (newer, 0, ()))

    def test_no_tokens_left_and_the_next_one_still_begins(self):
        for tokens in (NOUGHT, (3, 4)):
            life = life_with(COUNT, tokens=tokens)
            self.assertEqual(self.given(life), (life[:3] + (3, 1), 0, ()))
        newer, steps, dones = self.given(life_with(PUT, COUNT, tokens=(7, 4)))
        self.assertEqual((newer[1:], steps, dones), ((((1, COUNT),), (3, 4), 4, 2), 1, ((0, 6, 5),)))
        newer, steps, dones = self.given(life_with(PUT, COUNT, tokens=(9, 1)), 1)
        self.assertEqual((newer[1:], steps, dones), ((((1, COUNT),), (8, 1), 4, 2), 1, ((0, 6, 5),)))

    def test_whole_steps_alone(self):
        newer, steps, dones = self.given(life_with(COUNT, tokens=(5, 2)))
        self.assertEqual((newer[2:4], steps, dones), (((1, 2), 1), 2, ()))

    def test_paid_over_several_ticks(self):
        life = life_with(COUNT)
        for tick, owed in ((0, 2), (1, 1)):
            life, steps, dones = given(life[:2] + ((1, 1),) + life[3:], tick=tick)
            self.assertEqual((life[3], steps, dones), (owed, 1, ()))
        life, steps, dones = given(life[:2] + ((1, 1),) + life[3:], tick=2)
        self.assertEqual((life[1:], steps, dones), (((), (0, 1), None, 1), 1, ((0, 2, 2),)))

    def test_its_measure_is_that_of_its_beginning(self):
        # It began with two ROWS; with none it is paid by what was owed, and tells by the STORE as it is then.
        begun = given(life_with(COUNT))[0]
        void = (("emp", 5, (), ()),)
        newer, steps, dones = given((void,) + begun[1:2] + ((9, 1),) + begun[3:])
        self.assertEqual((steps, dones, newer[3]), (3, ((0, 6, 0),), None))
        # Not begun yet, it is measured by the STORE as it is at its beginning.
        newer, steps, dones = given((void,) + life_with(COUNT, tokens=(9, 1))[1:])
        self.assertEqual((steps, dones), (1, ((0, 6, 0),)))

    def test_each_is_measured_behind_those_ahead_of_it(self):
        life = life_with(("drop", "emp", 3), COUNT, ("put", "emp", EU, ()), COUNT, tokens=(99, 1))
        self.assertEqual(given(life)[1], 2 + 2 + 1 + 3)

    def test_refused_jobs_are_done_and_cost(self):
        rules = (("kept", EU, 9), ("stay", "us"))
        jobs = (("get", "zz", 0), ("get", "emp", 1), ("set", "emp", 3, 9, 0), ("put", "emp", "us", ()), ("drop", "emp", 0))
        newer, steps, dones = self.given(life_with(*jobs, tokens=(99, 1)), rules=rules)
        words = ("table", "row", "worth", "stay", "kept")
        self.assertEqual(dones, tuple((number, 6, ("no", word)) for number, word in enumerate(words)))
        self.assertEqual((steps, newer[0]), (1 + 1 + 2 + 1 + 2, STORE))

    def test_no_tokens_are_grown_and_nothing_is_struck(self):
        rules = (("struck", EU, 1), ("struck", "us", 1))
        newer, steps, dones = given(life_with(COUNT, tokens=(3, 1)), tick=99, rules=rules)
        self.assertEqual((newer, steps, dones), ((STORE, (), (0, 1), None, 1), 3, ((0, 99, 2),)))

    def test_at_its_tick_and_land(self):
        life = life_with(("put", "emp", "us", ()), tokens=(9, 1))
        newer = sliced(life, None, tick=40, land="us", rules=(("stay", "us"),))[0]
        self.assertEqual(newer[0][1][2][-1], (5, "us", 40, ()))

    def test_in_slices_as_in_one(self):
        chance = random.Random(27)
        for _ in range(300):
            jobs = [some_job(chance) for _ in range(chance.randrange(8))]
            life = life_with(*jobs, store=some_store(chance), tokens=(chance.randrange(120), 4))
            told = given(life)
            steps, dones, slices = 0, (), life
            for many in [chance.randrange(4) for _ in range(chance.randrange(9))] + [None]:
                slices, more, done = given(slices, many)
                self.assertLessEqual(more, 99 if many is None else many)
                steps, dones = steps + more, dones + done
            self.assertEqual((slices, steps, dones), told)
            self.pays(life, told)

    def pays(self, life, told):
        """STEPS given are the MEASURES of all that was DONE, and what the first one in the QUEUE has paid."""
        newer, steps, dones = told
        store, total = life[0], 0
        for number, job in life[1][:len(dones)]:
            total += measure_of(store, job)
            store, answer = job_done(store, job, tick=6, land=EU)
            self.assertEqual(repr(dones[number]), repr((number, 6, answer)))
        self.assertEqual(newer[:2], (store, life[1][len(dones):]))
        if newer[1]:
            total += measure_of(store, newer[1][0][1]) - newer[3]
            self.assertGreaterEqual(newer[3], 1)
        self.assertEqual(steps, total)


if __name__ == "__main__":
    unittest.main()
