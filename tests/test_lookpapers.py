"""LOOK PAPERS and their checker: points 18 and 19, by 12 and 15."""

import random
import unittest

from tenanthall.errors import NoPaper
from tenanthall.jobs import done_job
from tenanthall.lookchecker import lets_look
from tenanthall.lookpapers import look_paper
from tenanthall.measures import looked_at, measure_of
from tests.model import some_ask, some_store
from tests.samples import SAID, kept_whole, refusal

LINK = ("link", "emp", 0)
# In emp the worths 0 and 2 have an index; the id 2 was dropped.
EMP = ("emp", 7, ((0, "eu", 0, (7, 1, SAID)), (1, "us", 1, (7, 1, LINK)), (3, "eu", 2, (8, 1, LINK)),
                  (4, "eu", 2, (7, None, LINK)), (6, "us", 3, (SAID,))), (0, 2))
STORE = (("dept", 9, ((5, "eu", 0, (7,)), (8, "eu", 0, (7,))), ()), EMP, ("void", 3, (), (0,)))
CONDS = ((1, "=", 1), (0, "=", 7), (0, "<", 9), (2, "=", LINK), (0, "=", 7))
ROWS, COUNT, SUM = ("rows", "emp", CONDS, 1), ("count", "emp", CONDS), ("sum", "emp", 0, CONDS)


class Papers(unittest.TestCase):

    def test_told(self):
        for ask in (ROWS, COUNT, SUM):
            self.assertEqual(kept_whole(self, look_paper, STORE, ask), (1, (0, 1, 4)))
        self.assertEqual(look_paper(ask=("count", "emp", ()), store=STORE), (None, (0, 1, 3, 4, 6)))

    def test_a_table_that_is_not_there(self):
        for conds in ((), CONDS):
            self.assertEqual(look_paper(STORE, ("count", "zz", conds)), (None, ()))
            self.assertEqual(lets_look(STORE, ("count", "zz", conds), (None, ())), 0)
        self.assertEqual(look_paper((), ("rows", "emp", (), 3)), (None, ()))

    def test_what_is_told_is_let_by_and_bent_is_not(self):
        chance = random.Random(18)
        many = 0
        for _ in range(400):
            store = some_store(chance, deeds=30)
            ask = some_ask(chance, tables=("dept", "emp", "eve"))
            if ask[0] in ("get", "follow"):
                continue
            by, ids = look_paper(store, ask)
            there = ask[1] in [entry[0] for entry in store]
            count = ("count", ask[1], ask[3] if ask[0] == "sum" else ask[2])
            told = done_job(store, count, tick=9, land="eu")[1] if there else 0
            self.assertEqual(lets_look(store, ask, (by, ids)), told)
            self.assertEqual(measure_of(store, ask), 1 + len(ids))
            self.assertEqual(looked_at(store, ask), (by, ids))
            many += len(ids)
            for k, number in enumerate(ids):
                fields = refusal(self, NoPaper, lets_look, store, ask, (by, ids[:k] + ids[k + 1:]))
                self.assertEqual(fields, {"word": "lacks", "at": number})
                shape = {"word": "shape", "at": -1}
                self.assertEqual(refusal(self, NoPaper, lets_look, store, ask, (by, ids[:k] + ids[k:k + 1] + ids[k:])), shape)
                if k > 0:
                    twisted = ids[:k - 1] + (number, ids[k - 1]) + ids[k + 1:]
                    self.assertEqual(refusal(self, NoPaper, lets_look, store, ask, (by, twisted)), shape)
        self.assertGreater(many, 300)


class Checker(unittest.TestCase):

    def refused(self, thing, ask=COUNT, store=STORE):
        fields = refusal(self, NoPaper, lets_look, store, ask, thing)
        return fields["word"], fields["at"]

    def test_by_none_and_by_each_cond(self):
        for ask in (ROWS, COUNT, SUM):
            self.assertEqual(kept_whole(self, lets_look, STORE, ask, (None, (0, 1, 3, 4, 6))), 1)
            self.assertEqual(kept_whole(self, lets_look, STORE, ask, (1, (0, 1, 4))), 1)
            self.assertEqual(lets_look(thing=(3, (1, 3, 4)), ask=ask, store=STORE), 1)
            self.assertEqual(lets_look(STORE, ask, (4, (0, 1, 4))), 1)

    def test_how_many_meet_all(self):
        for conds, paper, many in (((), (None, (0, 1, 3, 4, 6)), 5), (((0, "=", 7),), (0, (0, 1, 4)), 3),
                                   (((0, "=", 7), (1, "=", 1)), (0, (0, 1, 4)), 2), (((0, "=", 9),), (0, ()), 0),
                                   (((0, "=", 7),), (None, (0, 1, 3, 4, 6)), 3), (((9, "=", 7),), (None, (0, 1, 3, 4, 6)), 0)):
            self.assertEqual(lets_look(STORE, ("count", "emp", conds), paper), many)
            # Of "rows", too, whatever its most is.
            self.assertEqual(lets_look(STORE, ("rows", "emp", conds, 0), paper), many)
        self.assertEqual(lets_look(STORE, ("count", "void", ((0, "=", 1),)), (0, ())), 0)

    def test_shape(self):
        for thing in (None, True, 1, "", (), [], (1,), (1, (0, 1, 4), 0), [1, (0, 1, 4)], (1, [0, 1, 4]), (1, None), (1, 4),
                      (True, (0, 1, 4)), (False, ()), (-1, (0, 1, 4)), ("1", (0, 1, 4)), ((1,), (0, 1, 4)), ([], ()),
                      (1, (0, True, 4)), (1, (False, 1, 4)), (1, (-1, 0, 1, 4)), (1, (0, None, 4)), (1, (0, "1", 4)),
                      (1, (0, 1, 1, 4)), (1, (0, 4, 1)), (1, ((0,), 1, 4)), (1, "014"), ((0, 1, 4), 1)):
            self.assertEqual(self.refused(thing), ("shape", -1), thing)

    def test_by(self):
        # No COND "=", no index of its worth, none of this number.
        for by in (0, 2, 5, 10 ** 90):
            self.assertEqual(self.refused((by, (0, 1, 4))), ("by", -1))
        self.assertEqual(self.refused((0, ()), ("count", "emp", ())), ("by", -1))
        self.assertEqual(self.refused((0, (5, 8)), ("count", "dept", ((0, "=", 7),))), ("by", -1))
        self.assertEqual(self.refused((0, ()), ("count", "zz", ((0, "=", 7),))), ("by", -1))
        for sign in "<>":
            self.assertEqual(self.refused((0, (0,)), ("count", "emp", ((0, sign, 7),))), ("by", -1))

    def test_row(self):
        # Dropped, of another table, of none.
        for i, ids in ((1, (1, 2, 3)), (0, (2, 4)), (1, (0, 5)), (0, (8,)), (1, (1, 10 ** 90)), (3, (0, 1, 4, 7))):
            self.assertEqual(self.refused((None, ids) if i != 3 else (1, ids)), ("row", i))
        self.assertEqual(self.refused((None, (0,)), ("count", "zz", ())), ("row", 0))

    def test_looked(self):
        self.assertEqual(self.refused((1, (0, 1, 3, 4))), ("looked", 2))
        self.assertEqual(self.refused((1, (3,))), ("looked", 0))
        self.assertEqual(self.refused((1, (0, 1, 4, 6))), ("looked", 3))
        self.assertEqual(self.refused((3, (0, 1, 3, 4))), ("looked", 0))

    def test_lacks(self):
        for paper, number in (((1, ()), 0), ((1, (1, 4)), 0), ((1, (0,)), 1), ((1, (0, 1)), 4), ((3, (1, 3)), 4),
                              ((None, ()), 0), ((None, (0, 1, 3, 4)), 6), ((None, (0, 1, 4, 6)), 3), ((None, (6,)), 0)):
            self.assertEqual(self.refused(paper), ("lacks", number))

    def test_rows_that_meet_not_all_must_not_lack_either(self):
        self.assertEqual(self.refused((1, (0, 1)), ("count", "emp", ((9, "=", 0), (0, "=", 7)))), ("lacks", 4))

    def test_the_first_that_is_due(self):
        for paper, told in (((9, (2, 1)), ("shape", -1)), ((0, (2,)), ("by", -1)), ((1, (2, 3)), ("row", 0)),
                            ((1, (3, 5)), ("looked", 0)), ((1, (1, 2, 3)), ("row", 1)), ((1, (1, 3)), ("looked", 1))):
            self.assertEqual(self.refused(paper), told)


if __name__ == "__main__":
    unittest.main()
