"""TICKS and RUNS of HOUSES: points 31, 32, 33 and 35."""

import random
import unittest

from tenanthall.alone import run_alone
from tenanthall.errors import NoTenant
from tenanthall.pacechecker import lets_pace
from tenanthall.pacepapers import givens_of
from tenanthall.queues import handed_in, life_of
from tenanthall.slices import run_house, tick_house
from tests.model import some_job, some_store
from tests.samples import STORE, kept_whole, refusal

EU = "eu"
COUNT, PUT = ("count", "emp", ()), ("put", "emp", EU, ())
ANN, BOB, CY = ((4, 1), 9), ((3, 2), 5), ((1, 2), 1)
HOUSE = (EU, 15, (("ann", ANN), ("bob", BOB), ("cy", CY)))


def life_with(*jobs):
    life = life_of(STORE)
    for job in jobs:
        life = handed_in(life, job)
    return life


LIVES = (("ann", life_with(COUNT, PUT)), ("bob", life_with(PUT, COUNT)), ("cy", life_with(PUT)))


class Ticks(unittest.TestCase):

    def ticked(self, slices=(), lives=LIVES, tick=6, **more):
        return kept_whole(self, lambda *things: tick_house(HOUSE, *things, tick=tick, **more), lives, slices)

    def test_guest_by_guest(self):
        lives, rows, dones = self.ticked()
        self.assertEqual(rows, (("ann", 4), ("bob", 1)))
        self.assertEqual(dones, (("ann", 0, 6, 2), ("ann", 1, 6, 5), ("bob", 0, 6, 5)))
        self.assertEqual([name for name, _ in lives], ["ann", "bob", "cy"])
        self.assertEqual([life[2:4] for _, life in lives], [((0, 1), None), ((1, 2), 4), ((1, 2), 1)])
        told = tick_house(rules=(), tick=6, slices=(), lives=LIVES, house=HOUSE)
        self.assertEqual(told, (lives, rows, dones))
        with self.assertRaises(TypeError):
            tick_house(HOUSE, LIVES, (), 6)

    def test_slices_go_ahead(self):
        lives, rows, dones = self.ticked((("bob", 1), ("ann", 3), ("ann", 9), ("bob", 2)))
        self.assertEqual(rows, (("bob", 1), ("ann", 3), ("ann", 1)))
        self.assertEqual(dones, (("bob", 0, 6, 5), ("ann", 0, 6, 2), ("ann", 1, 6, 5)))
        self.assertEqual(lives, self.ticked()[0])

    def test_slices_of_none_and_of_all(self):
        for slices, rows in (((("cy", 0), ("bob", 0), ("bob", None)), (("bob", 1), ("ann", 4))),
                             ((("ann", 2), ("cy", 7), ("ann", None)), (("ann", 2), ("ann", 2), ("bob", 1))),
                             ((("cy", None),) * 3, (("ann", 4), ("bob", 1)))):
            told = self.ticked(slices)
            self.assertEqual(told[1], rows)
            self.assertEqual(told[0], self.ticked()[0])

    def test_struck_at_its_end(self):
        rules = (("struck", EU, 4), ("struck", "us", 1))
        lives, _, dones = self.ticked(rules=rules)
        self.assertEqual(dones[0], ("ann", 0, 6, 2))
        self.assertEqual([len(life[0][1][2]) for _, life in lives], [1, 1, 0])

    def test_the_house_s_land(self):
        lives = (("ann", life_with(("put", "emp", EU, ()), ("put", "emp", "us", ()))),) + LIVES[1:]
        told = self.ticked(lives=lives, rules=(("stay", EU), ("stay", "us")))
        self.assertEqual([done[3] for done in told[2][:2]], [5, ("no", "stay")])

    def test_no_guest(self):
        for name in ("dan", "eu", "", None, True, 0, ("ann",), ["ann"], {}):
            for slices in (((name, 1),), (("ann", 1), (name, 1), ("eve", 1))):
                fields = refusal(self, NoTenant, tick_house, HOUSE, LIVES, slices, tick=6)
                self.assertIs(fields["name"], name)

    def test_a_house_without_guests(self):
        self.assertEqual(tick_house((EU, 0, ()), (), (), tick=0), ((), (), ()))


def some_house(chance):
    """A HOUSE, STORES, HANDED, ORDERS and RULES."""
    shares = (ANN, BOB, CY, ((0, 1), 3), ((7, 1), 4))
    guests = tuple((name, chance.choice(shares)) for name in sorted(chance.sample(("ann", "bob", "cy", "dan"), chance.randrange(1, 5))))
    names = [name for name, _ in guests]
    stores = tuple((name, some_store(chance, ticks=1)) for name in names)
    handed = tuple((tick, chance.choice(names), some_job(chance)) for tick in sorted(chance.randrange(9) for _ in range(30)))
    orders = tuple(tuple((chance.choice(names), chance.choice((0, 1, 1, 2, 9, None))) for _ in range(chance.randrange(6)))
                   for _ in range(chance.randrange(12)))
    rules = chance.choice(((), (("kept", EU, 2), ("stay", "us"), ("struck", EU, 3))))
    return (EU, sum(share[1] for _, share in guests) + chance.randrange(2), guests), stores, handed, orders, rules


class Runs(unittest.TestCase):
    stores = (("ann", STORE), ("bob", ()), ("cy", STORE))

    def run_of(self, handed=(), ticks=4, orders=(), house=HOUSE, **more):
        def run(stores, handed, orders):
            return run_house(house, stores, handed, ticks=ticks, orders=orders, **more)
        return kept_whole(self, run, self.stores, handed, orders)

    def test_told(self):
        handed = ((0, "bob", PUT), (0, "ann", COUNT), (1, "bob", PUT), (1, "bob", COUNT))
        lives, paper, dones = self.run_of(handed)
        self.assertEqual(paper, ((0, "ann", 3), (0, "bob", 1), (1, "bob", 2), (2, "bob", 1), (3, "bob", 1)))
        self.assertEqual(dones, (("ann", 0, 0, 2), ("bob", 0, 0, 0), ("bob", 1, 1, 1), ("bob", 2, 3, 2)))
        self.assertEqual([life[4] for _, life in lives], [1, 3, 0])
        told = run_house(rules=(), orders=(), ticks=4, handed=handed, stores=self.stores, house=HOUSE)
        self.assertEqual(told, (lives, paper, dones))
        self.assertEqual(run_house(HOUSE, self.stores, handed, ticks=4), told)
        with self.assertRaises(TypeError):
            run_house(HOUSE, self.stores, handed, 4)

    def test_orders_of_the_first_ticks(self):
        handed = tuple((0, name, COUNT) for name in ("ann", "bob", "cy") for _ in range(4))
        orders = ((("bob", 1), ("ann", 1)), (), (("cy", 3), ("bob", None)))
        paper = self.run_of(handed, orders=orders)[1]
        self.assertEqual(paper, ((0, "bob", 1), (0, "ann", 1), (0, "ann", 3), (1, "ann", 4), (1, "bob", 2), (1, "cy", 1),
                                 (2, "bob", 1), (2, "ann", 4), (3, "cy", 1)))

    def test_orders_beyond_all_ticks(self):
        orders = ((), (), (), (), (("bob", 1),), ())
        self.assertEqual(self.run_of(((0, "bob", PUT),), orders=orders), self.run_of(((0, "bob", PUT),)))

    def test_nothing(self):
        self.assertEqual(run_house((EU, 0, ()), (), (), ticks=3), ((), (), ()))
        lives, paper, dones = self.run_of(ticks=0)
        self.assertEqual((lives, paper, dones), (tuple((name, life_of(store)) for name, store in self.stores), (), ()))

    def test_no_guest(self):
        fine = ((0, "ann", PUT),)
        for name in ("dan", None, True, ("ann",), ["ann"]):
            for handed, orders in ((fine + ((1, name, PUT),), ()), (fine + ((99, name, PUT),), ((("eve", 1),),)),
                                   (fine, ((("ann", 1),), (("bob", 1), (name, 1)))), (fine, ((), (), (), (), ((name, 1),))),
                                   (((0, name, PUT), (0, "eve", PUT)), ())):
                fields = refusal(self, NoTenant, run_house, HOUSE, self.stores, handed, ticks=4, orders=orders)
                self.assertIs(fields["name"], name)

    def test_jobs_of_later_ticks_are_not_looked_at(self):
        self.assertEqual(self.run_of(((0, "ann", PUT), (4, "ann", None))), self.run_of(((0, "ann", PUT),)))


class Whole(unittest.TestCase):
    """Points 33 and 35: each guest is as it would be alone."""

    def test_as_alone(self):
        chance = random.Random(33)
        for _ in range(150):
            house, stores, handed, orders, rules = some_house(chance)
            lives, paper, dones = run_house(house, stores, handed, ticks=10, orders=orders, rules=rules)
            self.assertEqual([name for name, _ in lives], [name for name, _ in stores])
            for (name, store), (_, share), (_, life) in zip(stores, house[2], lives):
                own = tuple((tick, job) for tick, guest, job in handed if guest == name)
                alone = run_alone(store, share, own, ticks=10, land=EU, rules=rules)
                self.assertEqual(life, alone[0])
                self.assertEqual(givens_of(paper, name, ticks=10), alone[1])
                self.assertEqual(repr(tuple(done[1:] for done in dones if done[0] == name)), repr(alone[2]))
            self.assertEqual(lets_pace(house, paper, ticks=10), sum(many for _, _, many in paper))
            for tick in range(10):
                self.assertLessEqual(sum(many for at, _, many in paper if at == tick), house[1])
            self.spends_all(lives)

    def spends_all(self, lives):
        for _, life in lives:
            self.assertTrue(life[1] == () or life[2][0] < life[2][1])

    def test_whatever_others_do(self):
        chance = random.Random(34)
        for _ in range(60):
            house, stores, handed, orders, rules = some_house(chance)
            name = chance.choice(house[2])[0]
            others = tuple((tick, chance.choice(house[2])[0], some_job(chance)) for tick in sorted(chance.randrange(9) for _ in range(20)))
            mixed = tuple(sorted([part for part in handed if part[1] == name] + [part for part in others if part[1] != name],
                                 key=lambda part: part[0]))
            one = run_house(house, stores, handed, ticks=9, orders=orders, rules=rules)
            other = run_house(house, stores, mixed, ticks=9, orders=orders[::-1], rules=rules)
            self.assertEqual(dict(one[0])[name], dict(other[0])[name])
            self.assertEqual(givens_of(one[1], name, ticks=9), givens_of(other[1], name, ticks=9))
            self.assertEqual([done for done in one[2] if done[0] == name], [done for done in other[2] if done[0] == name])

    def test_by_a_paper_no_more_than_most_and_fractions(self):
        chance = random.Random(35)
        for _ in range(40):
            house, stores, handed, orders, rules = some_house(chance)
            paper = run_house(house, stores, handed, ticks=10, orders=orders, rules=rules)[1]
            for name, ((over, under), most) in house[2]:
                givens = givens_of(paper, name, ticks=10)
                for start in range(10):
                    for end in range(start + 1, 11):
                        self.assertLessEqual(sum(givens[start:end]) * under, most * under + (end - start - 1) * over)


if __name__ == "__main__":
    unittest.main()
