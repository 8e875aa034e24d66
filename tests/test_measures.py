"""MEASURES: points 5 and 15."""

import itertools
import random
import unittest

from tenanthall.measures import looked_at, measure_of
from tests.model import some_store
from tests.samples import LINK, SAID, STORE, bent, kept_whole

# In emp the worths 0 and 2 have an index; the id 2 was dropped.
EMP = ("emp", 7, (
    (0, "eu", 0, (7, 1, SAID)),
    (1, "us", 1, (7, 1, ("link", "emp", 1))),
    (3, "eu", 2, (8, 1, ("link", "emp", 0))),
    (4, "eu", 2, (7, None, ("link", "emp", 2))),
    (6, "us", 3, (("said", "7"),)),
), (0, 2))
TEAM = ("team", 4, ((1, "eu", 0, (("link", "void", 0), ("link", "other", 0), ("link", "team", 3))),
                    (3, "eu", 0, (3, LINK))), ())
LARGE = (EMP, TEAM, ("void", 3, (), (0,)))


class Measures(unittest.TestCase):

    def measure(self, *job):
        told = kept_whole(self, measure_of, LARGE, job)
        self.assertEqual(measure_of(job=job, store=LARGE), told)
        return told

    def test_put(self):
        for table in ("emp", "void", "other"):
            self.assertEqual(self.measure("put", table, "eu", (1, SAID)), 1)
        self.assertEqual(measure_of((), ("put", "emp", "eu", ())), 1)

    def test_of_one_id(self):
        for word, more in (("set", (0, 1)), ("add", (0, 1)), ("drop", ()), ("get", ())):
            self.assertEqual(self.measure(word, "emp", 3, *more), 2)
            for number in (2, 7, 10 ** 200):
                self.assertEqual(self.measure(word, "emp", number, *more), 1)
            for table in ("void", "other"):
                self.assertEqual(self.measure(word, table, 0, *more), 1)

    def test_refused_ones(self):
        # No such worth, no NUMBER: the ROW is looked at all the same.
        for job in (("set", "emp", 3, 9, 1), ("add", "emp", 3, 9, 1), ("add", "emp", 0, 2, 1), ("add", "emp", 4, 1, 1)):
            self.assertEqual(self.measure(*job), 2)
        for job in (("follow", "emp", 3, 9), ("follow", "emp", 3, 0), ("follow", "emp", 0, 2), ("follow", "emp", 4, 1)):
            self.assertEqual(self.measure(*job), 2)

    def test_follow(self):
        self.assertEqual(self.measure("follow", "emp", 3, 2), 3)
        self.assertEqual(self.measure("follow", "team", 1, 2), 3)
        # To its own ROW.
        self.assertEqual(self.measure("follow", "emp", 1, 2), 3)
        # To none: the id was dropped, the table has no such one, it isn't there.
        self.assertEqual(self.measure("follow", "emp", 4, 2), 2)
        self.assertEqual(self.measure("follow", "team", 1, 0), 2)
        self.assertEqual(self.measure("follow", "team", 1, 1), 2)
        self.assertEqual(self.measure("follow", "team", 3, 1), 2)
        for table, number in (("emp", 2), ("emp", 7), ("void", 0), ("other", 0)):
            self.assertEqual(self.measure("follow", table, number, 2), 1)

    def test_index(self):
        for k in (0, 1, 2, 9):
            self.assertEqual(self.measure("index", "emp", k), 6)
            self.assertEqual(self.measure("index", "team", k), 3)
            self.assertEqual(self.measure("index", "void", k), 1)
            self.assertEqual(self.measure("index", "other", k), 1)

    def test_all_rows_where_no_index_serves(self):
        for conds in ((), ((1, "=", 1),), ((0, ">", 7),), ((0, "<", 7), (2, ">", 1)), ((9, "=", 7),)):
            for ask in (("rows", "emp", conds, 0), ("count", "emp", conds), ("sum", "emp", 0, conds)):
                self.assertEqual(self.measure(*ask), 6, ask)

    def test_those_that_meet_the_cond_of_the_index(self):
        for conds, many in ((((0, "=", 7),), 3), (((0, "=", 8),), 1), (((0, "=", 9),), 0), (((0, "=", ("said", "7")),), 1),
                            (((2, "=", SAID),), 1), (((0, "=", 7), (1, "=", None)), 3)):
            for ask in (("rows", "emp", conds, 1), ("rows", "emp", conds, 99), ("count", "emp", conds),
                        ("sum", "emp", 9, conds)):
                self.assertEqual(self.measure(*ask), 1 + many, ask)

    def test_a_table_that_isnt_there(self):
        for conds in ((), ((0, "=", 7),)):
            for ask in (("rows", "other", conds, 9), ("count", "other", conds), ("sum", "other", 0, conds),
                        ("count", "void", conds)):
                self.assertEqual(self.measure(*ask), 1)


class LookedAt(unittest.TestCase):

    def looked(self, conds, table="emp", store=LARGE):
        told = kept_whole(self, looked_at, store, ("count", table, conds))
        self.assertIsInstance(told, tuple)
        self.assertIsInstance(told[1], tuple)
        for ask in (("rows", table, conds, 0), ("sum", table, 0, conds)):
            self.assertEqual(looked_at(ask=ask, store=store), told)
            self.assertEqual(measure_of(store, ask), 1 + len(told[1]))
        return told

    def test_by_none(self):
        for conds in ((), ((1, "=", 1),), ((0, "<", 8), (2, ">", 1)), ((9, "=", 0),)):
            self.assertEqual(self.looked(conds), (None, (0, 1, 3, 4, 6)))
        self.assertEqual(self.looked(((0, "=", 3),), "team"), (None, (1, 3)))

    def test_by_the_first_cond_and_by_a_later_one(self):
        self.assertEqual(self.looked(((0, "=", 7), (1, "=", 1))), (0, (0, 1, 4)))
        self.assertEqual(self.looked(((1, "=", 1), (0, "=", 7))), (1, (0, 1, 4)))
        self.assertEqual(self.looked(((0, ">", 0), (1, "=", 1), (2, "=", SAID))), (2, (0,)))
        self.assertEqual(self.looked(((0, "<", 9), (0, "=", 8))), (1, (3,)))

    def test_the_first_of_several(self):
        self.assertEqual(self.looked(((2, "=", SAID), (0, "=", 7))), (0, (0,)))
        self.assertEqual(self.looked(((0, "=", 7), (2, "=", SAID))), (0, (0, 1, 4)))
        self.assertEqual(self.looked(((0, "=", 8), (0, "=", 7))), (0, (3,)))
        self.assertEqual(self.looked(((0, "=", 7), (0, "=", 8))), (0, (0, 1, 4)))
        self.assertEqual(self.looked(((0, "=", 7), (0, "=", 7))), (0, (0, 1, 4)))

    def test_none_that_meet(self):
        self.assertEqual(self.looked(((0, "=", 99),)), (0, ()))
        self.assertEqual(self.looked(((0, "=", None), (0, "=", 7))), (0, ()))

    def test_tables_without_rows_or_not_there(self):
        self.assertEqual(self.looked(((1, "=", 7), (0, "=", 7)), "void"), (1, ()))
        self.assertEqual(self.looked((), "void"), (None, ()))
        self.assertEqual(self.looked(((0, "=", 7),), "other"), (None, ()))
        self.assertEqual(self.looked(((0, "=", 7),), "emp", ()), (None, ()))

    def test_the_indexes_of_its_own_table(self):
        store = (EMP[:3] + ((),), ("team", 0, (), (0, 1, 2)))
        self.assertEqual(self.looked(((0, "=", 8),), "emp", store), (None, (0, 1, 3, 4, 6)))

    def test_never_more_than_without_any_index(self):
        chance = random.Random(17)
        values = (7, 8, None, SAID)
        for _ in range(60):
            store = some_store(chance)
            for table, _, rows, _ in store:
                conds = tuple((chance.randrange(3), chance.choice("==<"), chance.choice(values)) for _ in range(2))
                ask = ("count", table, conds)
                for indexes in itertools.chain.from_iterable(itertools.combinations(range(3), k) for k in range(4)):
                    place = [entry[0] for entry in store].index(table)
                    told = measure_of(bent(store, (place, 3), indexes), ask)
                    self.assertLessEqual(told, 1 + len(rows))
                    if indexes == ():
                        self.assertEqual(told, 1 + len(rows))

    def test_samples(self):
        self.assertEqual(looked_at(STORE, ("count", "emp", ((2, "=", LINK),))), (0, (0,)))


if __name__ == "__main__":
    unittest.main()
