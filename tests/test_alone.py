"""A TENANT alone: points 5, 28 and 29."""

import random
import unittest
from fractions import Fraction

from tenanthall.alone import run_alone, tick_alone
from tenanthall.measures import measure_of
from tenanthall.queues import handed_in, life_of, sliced
from tenanthall.tokens import pace_of
from tests.model import job_done, some_job, some_store
from tests.samples import STORE, kept_whole

EU = "eu"
COUNT = ("count", "emp", ())
MUCH = ((99, 1), 99)


def some_share(chance):
    return chance.choice((((1, 2), 1), ((2, 3), 4), ((1, 1), 1), ((7, 5), 3), ((0, 1), 5), ((9, 4), 99), ((5, 1), 3)))


def run(handed=(), store=STORE, share=MUCH, ticks=6, rules=()):
    return run_alone(store, share, handed, ticks=ticks, land=EU, rules=rules)


class Ticks(unittest.TestCase):

    def test_grown_and_given(self):
        life = handed_in(life_of(STORE), COUNT)
        told = kept_whole(self, lambda life: tick_alone(life, ((5, 2), 9), tick=6, land=EU), life)
        self.assertEqual(told, ((STORE, ((0, COUNT),), (1, 2), 1, 1), 2, ()))
        told = tick_alone(rules=(), land=EU, tick=7, share=((5, 2), 9), life=told[0])
        self.assertEqual(told, ((STORE, (), (2, 1), None, 1), 1, ((0, 7, 2),)))
        with self.assertRaises(TypeError):
            tick_alone(life, MUCH, 6, EU)

    def test_no_more_than_its_most(self):
        life = life_of(STORE)
        for ticks in range(9):
            self.assertEqual(life[2], (min(ticks * 3, 7), 1))
            life = tick_alone(life, ((3, 1), 7), tick=ticks, land=EU)[0]

    def test_struck_at_its_end(self):
        # The JOB still sees the ROWS that go at this tick's end.
        rules = (("struck", EU, 4),)
        life = handed_in(life_of(STORE), COUNT)
        (store, *_), given, dones = tick_alone(life, MUCH, tick=6, land=EU, rules=rules)
        self.assertEqual((given, dones), (3, ((0, 6, 2),)))
        self.assertEqual([len(entry[2]) for entry in store], [0, 1, 0])
        self.assertEqual(tick_alone(life, MUCH, tick=6, land=EU, rules=(("kept", EU, 9),) + rules)[0][0], STORE)


class Runs(unittest.TestCase):

    def test_told(self):
        handed = ((0, COUNT), (0, ("put", "emp", EU, ())), (2, COUNT))
        told = kept_whole(self, run, handed, STORE)
        self.assertEqual(told[1:], ((4, 0, 4, 0, 0, 0), ((0, 0, 2), (1, 0, 5), (2, 2, 3))))
        self.assertEqual(told[0][1:], ((), (99, 1), None, 3))
        self.assertEqual(run_alone(rules=(), land=EU, ticks=6, handed=handed, share=MUCH, store=STORE), told)
        with self.assertRaises(TypeError):
            run_alone(STORE, MUCH, handed, 6, EU)

    def test_nothing(self):
        self.assertEqual(run(ticks=0), (life_of(STORE), (), ()))
        self.assertEqual(run(store=(), ticks=2), (((), (), (99, 1), None, 0), (0, 0), ()))

    def test_shares_below_1(self):
        life, givens, dones = run(((0, COUNT),), share=((1, 3), 1), ticks=12)
        self.assertEqual(givens, (0, 0, 1, 0, 0, 1, 0, 0, 1, 0, 0, 0))
        self.assertEqual(dones, ((0, 8, 2),))
        self.assertEqual(life[2], (1, 1))

    def test_shares_of_0(self):
        life, givens, dones = run(((0, COUNT), (3, COUNT)), share=((0, 1), 9), ticks=50)
        self.assertEqual((givens, dones), ((0,) * 50, ()))
        self.assertEqual(life[1:], (((0, COUNT), (1, COUNT)), (0, 1), 3, 2))

    def test_a_most_that_is_never_reached(self):
        life, givens, _ = run(share=((7, 3), 10 ** 90), ticks=9)
        self.assertEqual((life[2], givens), ((21, 1), (0,) * 9))

    def test_a_most_below_the_fraction(self):
        handed = tuple((0, COUNT) for _ in range(9))
        self.assertEqual(run(handed, share=((9, 1), 2))[1], (2,) * 6)

    def test_jobs_for_later_ticks_are_not_looked_at(self):
        for later in ((6, COUNT), (99, None), (6, "count"), (10 ** 90, ("no", 1))):
            self.assertEqual(run(((5, COUNT), later)), run(((5, COUNT),)))
        self.assertEqual(run(((6, COUNT),))[0][4], 0)

    def test_each_at_its_tick(self):
        handed = ((0, COUNT), (1, COUNT), (1, COUNT), (5, COUNT))
        self.assertEqual([done[:2] for done in run(handed)[2]], [(0, 0), (1, 1), (2, 1), (3, 5)])

    def test_rows_are_struck_at_each_tick_s_end(self):
        rules = (("struck", EU, 2),)
        handed = tuple((tick, job) for tick in range(6) for job in (("put", "emp", EU, ()), COUNT))
        dones = run(handed, (), rules=rules)[2]
        self.assertEqual([told for _, _, told in dones][1::2], [1, 2, 3, 3, 3, 3])
        self.assertEqual([told for _, _, told in dones][::2], list(range(6)))

    def test_a_queue_that_is_never_void(self):
        for share in (((1, 2), 1), ((2, 3), 4), ((7, 5), 3), ((5, 1), 3), ((3, 2), 2)):
            handed = tuple((0, COUNT) for _ in range(40))
            life, givens, _ = run(handed, share=share, ticks=25)
            self.assertEqual(givens, pace_of(share, 25))
            self.assertTrue(life[1])


class Any(unittest.TestCase):

    def test_as_one_step_at_a_time(self):
        """By the words of point 5 alone, STEP by STEP."""
        chance = random.Random(28)
        for _ in range(150):
            rules = chance.choice(((), (("kept", EU, 2), ("stay", "us"), ("struck", EU, 3))))
            store, share = some_store(chance, ticks=1), some_share(chance)
            handed = tuple((tick, some_job(chance)) for tick in sorted(chance.randrange(12) for _ in range(15)))
            life, givens, dones = run(handed, store, share, 10, rules)
            queue, tokens, owed, number, expected = [], Fraction(0), None, 0, []
            for tick in range(10):
                for at, job in handed:
                    if at == tick:
                        queue.append((number, job))
                        number += 1
                tokens = min(tokens + Fraction(*share[0]), Fraction(share[1]))
                given = 0
                while queue:
                    if owed is None:
                        owed = measure_of(store, queue[0][1])
                    if tokens < 1:
                        break
                    tokens, owed, given = tokens - 1, owed - 1, given + 1
                    if owed == 0:
                        owed = None
                        store, told = job_done(store, queue[0][1], tick=tick, land=EU, rules=rules)
                        expected.append((queue.pop(0)[0], tick, told))
                self.assertEqual(givens[tick], given)
                store = tuple((table, after, tuple(row for row in rows if not self.due(row, tick, rules)), indexes)
                              for table, after, rows, indexes in store)
            self.assertEqual(repr(dones), repr(tuple(expected)))
            self.assertEqual(life, (store, tuple(queue), (tokens.numerator, tokens.denominator), owed, number))

    def due(self, row, tick, rules):
        return bool(rules) and row[1] == EU and tick - row[2] >= 3

    def test_a_job_more_turns_nothing_ahead_of_it(self):
        chance = random.Random(29)
        for _ in range(100):
            store, share = some_store(chance, ticks=1), some_share(chance)
            handed = tuple((tick, some_job(chance)) for tick in sorted(chance.randrange(9) for _ in range(12)))
            tick = chance.randrange(9)
            ahead = [part for part in handed if part[0] <= tick]
            more = tuple(ahead) + ((tick, some_job(chance)),) + handed[len(ahead):]
            one, other = run(handed, store, share, 12)[2], run(more, store, share, 12)[2]
            self.assertEqual([done for done in one if done[1] < tick or done[0] < len(ahead)],
                             [done for done in other if done[1] < tick or done[0] < len(ahead)])
            self.assertEqual([number for number, _, _ in other], list(range(len(other))))

    def test_steps_given_are_those_of_the_jobs(self):
        chance = random.Random(5)
        for _ in range(100):
            share = some_share(chance)
            handed = tuple((tick, some_job(chance)) for tick in sorted(chance.randrange(9) for _ in range(12)))
            life, givens, dones = run(handed, share=share, ticks=9)
            jobs = dict(enumerate(job for _, job in handed))
            store, total = STORE, 0
            for number, tick, told in dones:
                total += measure_of(store, jobs[number])
                store = job_done(store, jobs[number], tick=tick, land=EU)[0]
            if life[3] is not None:
                total += measure_of(store, life[1][0][1]) - life[3]
            self.assertEqual(sum(givens), total)
            # No LIFE is left with STEPS that it could have paid.
            self.assertEqual(sliced(life, None, tick=9, land=EU)[1], 0)


if __name__ == "__main__":
    unittest.main()
