"""SHELVES: points 16 and 17."""

import random
import unittest

from tenanthall.jobs import done_job
from tenanthall.measures import measure_of
from tenanthall.shelves import Shelf
from tests.model import some_ask, some_job, some_store
from tests.samples import LINK, SAID, STORE, kept_whole

EU = "eu"
EMP = ("emp", 7, ((0, EU, 0, (7, None)), (2, EU, 1, (LINK, None)), (3, EU, 1, (7, SAID)), (4, EU, 2, ()), (6, EU, 2, (LINK,))),
       (0, 1))


def indexes_made(store, ks=range(4)):
    """A STORE with more indexes on all its tables."""
    return tuple(entry[:3] + (tuple(sorted(set(entry[3]) | set(ks))),) for entry in store)


def index_of(store, table, k):
    """The INDEX by the words of point 16."""
    for name, _, rows, indexes in store:
        if name == table and k in indexes:
            values = []
            for _, _, _, worths in rows:
                if k < len(worths) and repr(worths[k]) not in [repr(value) for value in values]:
                    values.append(worths[k])
            return tuple((value, tuple(row[0] for row in rows if k < len(row[3]) and row[3][k] == value)) for value in values)
    return None


class Shelves(unittest.TestCase):

    def do(self, shelf, *job, tick=6, **more):
        return kept_whole(self, lambda job: shelf.do(job, tick=tick, land=EU, **more), job)

    def test_made_of_a_store(self):
        for store in ((), STORE, (EMP,)):
            shelf = kept_whole(self, Shelf, store)
            self.assertEqual((shelf.store(), shelf.steps()), (store, 0))
        self.assertEqual(Shelf().store(), ())
        self.assertEqual(Shelf(store=STORE).store(), STORE)

    def test_by_places_and_names(self):
        shelf = Shelf(STORE)
        self.assertEqual(shelf.do(rules=(), land=EU, tick=6, job=("get", "emp", 3)), (None, -2))
        self.assertEqual(shelf.index(k=0, table="emp"), shelf.index("emp", 0))
        with self.assertRaises(TypeError):
            shelf.do(("get", "emp", 3), 6, EU)

    def test_done(self):
        shelf = Shelf((EMP,))
        self.assertEqual(self.do(shelf, "put", "emp", EU, (7,)), 7)
        self.assertEqual(shelf.store(), (("emp", 8, EMP[2] + ((7, EU, 6, (7,)),), (0, 1)),))
        self.assertEqual(self.do(shelf, "rows", "emp", ((0, "=", 7),), 9), (0, 3, 7))
        self.assertEqual(self.do(shelf, "set", "emp", 3, 0, None), None)
        self.assertEqual(self.do(shelf, "count", "emp", ((0, "=", 7),)), 2)
        self.assertEqual(self.do(shelf, "count", "emp", ((0, "=", None),)), 1)
        self.assertIs(self.do(shelf, "drop", "emp", 0), True)
        self.assertEqual(self.do(shelf, "sum", "emp", 0, ((0, "=", 7),)), 7)
        self.assertEqual(self.do(shelf, "follow", "emp", 6, 0), ("no", "link"))
        # 1, 1 + 3, 2, 1 + 2, 1 + 1, 2, 1 + 1, 2.
        self.assertEqual(shelf.steps(), 18)

    def test_refused_jobs_cost_and_turn_nothing(self):
        rules = (("kept", EU, 9), ("stay", "us"))
        shelf = Shelf((EMP,))
        for steps, word, job in ((1, "table", ("rows", "zz", ((0, "=", 1),), 1)), (2, "table", ("count", "zz", ())),
                                 (3, "table", ("drop", "zz", 1)), (4, "row", ("get", "emp", 1)), (6, "worth", ("set", "emp", 4, 0, 1)),
                                 (8, "kept", ("drop", "emp", 0)), (9, "stay", ("put", "zz", "us", ()))):
            self.assertEqual(self.do(shelf, *job, tick=2, rules=rules), ("no", word))
            self.assertEqual((shelf.steps(), shelf.store()), (steps, (EMP,)))
        self.assertEqual(shelf.index("emp", 0), index_of((EMP,), "emp", 0))

    def test_index(self):
        shelf = Shelf((EMP,))
        self.assertEqual(shelf.index("emp", 0), ((7, (0, 3)), (LINK, (2, 6))))
        # No worth 1 is no None.
        self.assertEqual(shelf.index("emp", 1), ((None, (0, 2)), (SAID, (3,))))
        for k in (2, 9, 10 ** 90):
            self.assertIsNone(shelf.index("emp", k))
        for table in ("zz", "dept"):
            self.assertIsNone(shelf.index(table, 0))
        self.assertIsNone(Shelf().index("emp", 0))
        self.assertEqual(Shelf((("emp", 3, (), (4,)),)).index("emp", 4), ())

    def test_indexes_made_later_twice_and_of_a_table_that_is_not_there(self):
        shelf = Shelf((EMP,))
        self.do(shelf, "index", "emp", 3)
        self.assertEqual(shelf.index("emp", 3), ())
        self.do(shelf, "index", "eve", 0)
        self.assertEqual(shelf.index("eve", 0), ())
        self.do(shelf, "put", "eve", EU, (LINK, 4))
        self.assertEqual(shelf.index("eve", 0), ((LINK, (0,)),))
        self.do(shelf, "index", "eve", 1)
        self.do(shelf, "index", "eve", 1)
        self.assertEqual(shelf.index("eve", 1), ((4, (0,)),))
        # 6, 1, 1, 2, 2: all ROWS of the table, also where it has this index.
        self.assertEqual(shelf.steps(), 12)

    def test_worths_that_turn(self):
        shelf = Shelf((EMP,))
        self.do(shelf, "add", "emp", 0, 0, 1)
        self.assertEqual(shelf.index("emp", 0), ((8, (0,)), (LINK, (2, 6)), (7, (3,))))
        self.do(shelf, "set", "emp", 3, 0, LINK)
        self.assertEqual(shelf.index("emp", 0), ((8, (0,)), (LINK, (2, 3, 6))))
        self.do(shelf, "drop", "emp", 0)
        self.assertEqual(shelf.index("emp", 0), ((LINK, (2, 3, 6)),))
        self.do(shelf, "set", "emp", 2, 0, None)
        self.assertEqual(shelf.index("emp", 0), ((None, (2,)), (LINK, (3, 6))))

    def test_len(self):
        self.assertEqual([len(Shelf(store)) for store in ((), (EMP,), STORE, STORE[:1] + (EMP,))], [0, 5, 3, 6])
        shelf = Shelf((EMP,))
        self.do(shelf, "drop", "emp", 0)
        self.assertEqual(len(shelf), 4)

    def test_equal_to_shelves_of_the_same_store_alone(self):
        shelf = Shelf((EMP,))
        other = Shelf((EMP,))
        self.do(other, "get", "emp", 0)
        self.assertTrue(shelf == other and other == shelf and not shelf != other)
        for thing in (None, True, 0, "", (), (EMP,), [EMP], Shelf(), Shelf(STORE), Shelf((EMP[:3] + ((0,),),)), object()):
            self.assertIs(shelf == thing, False)
            self.assertIs(thing == shelf, False)
            self.assertIs(shelf != thing, True)
        self.do(other, "drop", "emp", 0)
        self.assertFalse(shelf == other)


class Whole(unittest.TestCase):
    """Point 17: by indexes all is told as without them."""

    def test_on_a_shelf_and_on_a_store(self):
        chance = random.Random(16)
        for _ in range(120):
            rules = chance.choice(((), (("kept", EU, 2), ("stay", "us"))))
            store = some_store(chance)
            shelf, steps = Shelf(store), 0
            for tick in sorted(chance.randrange(8) for _ in range(30)):
                job = some_job(chance, tables=("dept", "emp", "eve"))
                steps += measure_of(store, job)
                store, told = done_job(store, job, tick=tick, land=EU, rules=rules)
                self.assertEqual(repr(shelf.do(job, tick=tick, land=EU, rules=rules)), repr(told))
                self.assertEqual((shelf.store(), shelf.steps()), (store, steps))
                self.assertEqual(len(shelf), sum(len(entry[2]) for entry in store))
                for table in ("dept", "emp", "eve"):
                    for k in range(4):
                        self.assertEqual(repr(shelf.index(table, k)), repr(index_of(store, table, k)))

    def test_more_indexes_tell_the_same(self):
        chance = random.Random(17)
        fewer = 0
        for _ in range(100):
            store = some_store(chance, deeds=30)
            plain, more = Shelf(store), Shelf(indexes_made(store))
            for _ in range(30):
                job = some_job(chance)
                if job[0] == "index":
                    continue
                self.assertEqual(repr(plain.do(job, tick=6, land=EU)), repr(more.do(job, tick=6, land=EU)))
            self.assertLessEqual(more.steps(), plain.steps())
            fewer += more.steps() < plain.steps()
            self.assertEqual([entry[:3] for entry in more.store()], [entry[:3] for entry in plain.store()])
        self.assertGreater(fewer, 50)

    def test_an_ask_never_measures_more(self):
        chance = random.Random(19)
        for _ in range(300):
            store, ask = some_store(chance), some_ask(chance)
            without = tuple(entry[:3] + ((),) for entry in store)
            self.assertLessEqual(measure_of(store, ask), measure_of(without, ask))


if __name__ == "__main__":
    unittest.main()
