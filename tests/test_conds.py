"""CONDS and what MEETS them: point 12, by the CONDS of point 3."""

import itertools
import unittest

from tenanthall.conds import meeting, meets
from tests.samples import LINK, SAID, STORE, kept_whole

HUGE = 10 ** 190 + 7
VALUES = (None, 0, 1, -1, -7, 7, HUGE, -HUGE, HUGE + 1, SAID, ("said", ""), ("said", "7"), ("said", "bobby"), LINK,
          ("link", "dept", 1), ("link", "emp", 0))

# The ids 1, 4, 5 were dropped.
EMP = ("emp", 8, ((0, "eu", 0, (5, None)), (2, "us", 0, (-5, SAID)), (3, "eu", 9, (5,)), (6, "eu", 1, ()),
                  (7, "eu", 1, (6, LINK))), ())


def row_of_worths(*worths):
    return (3, "eu", 2, worths)


def is_number(value):
    return isinstance(value, int)


class Rows(unittest.TestCase):

    def test_each_sign_of_any_two_values(self):
        for worth, value in itertools.product(VALUES, repeat=2):
            row = row_of_worths(worth)
            both = is_number(worth) and is_number(value)
            self.assertIs(kept_whole(self, meets, row, ((0, "=", value),)), worth == value, (worth, value))
            self.assertIs(kept_whole(self, meets, row, ((0, "<", value),)), both and worth < value, (worth, value))
            self.assertIs(kept_whole(self, meets, row, ((0, ">", value),)), both and worth > value, (worth, value))

    def test_worths_that_are_there(self):
        row = row_of_worths(7, SAID)
        self.assertIs(meets(row, ((0, "=", 7),)), True)
        self.assertIs(meets(row, ((1, "=", SAID),)), True)
        self.assertIs(meets(row, ((1, "=", 7),)), False)
        self.assertIs(meets(row, ((0, "=", SAID),)), False)

    def test_a_worth_more_than_there_are(self):
        for k in (2, 3, HUGE):
            for value in (None, 7, -HUGE, SAID):
                for sign in "=<>":
                    self.assertIs(meets(row_of_worths(7, None), ((k, sign, value),)), False)
        self.assertIs(meets(row_of_worths(), ((0, "=", None),)), False)
        self.assertIs(meets(row_of_worths(None), ((0, "=", None),)), True)

    def test_no_conds(self):
        self.assertIs(meets(row_of_worths(), ()), True)
        self.assertIs(meets(conds=(), row=row_of_worths(7)), True)

    def test_all_of_several(self):
        row = row_of_worths(7, -2)
        self.assertIs(meets(row, ((0, "=", 7), (1, "<", -1), (1, ">", -3))), True)
        for wrong in ((0, "=", 8), (1, "<", -2), (1, ">", -2), (2, "=", 7)):
            good = ((0, "=", 7), (1, "<", 0))
            for conds in ((wrong,) + good, good + (wrong,), good[:1] + (wrong,) + good[1:]):
                self.assertIs(meets(row, conds), False)

    def test_one_worth_twice(self):
        self.assertIs(meets(row_of_worths(4), ((0, ">", 3), (0, "<", 5))), True)
        self.assertIs(meets(row_of_worths(4), ((0, "=", 4), (0, "=", 5))), False)


class Stores(unittest.TestCase):

    def test_ids_rising(self):
        store = (STORE[0], EMP)
        for conds, ids in (((), (0, 2, 3, 6, 7)), (((0, "=", 5),), (0, 3)), (((0, ">", 4),), (0, 3, 7)),
                           (((0, "<", 0),), (2,)), (((1, "=", None),), (0,)), (((1, "=", LINK),), (7,)),
                           (((0, "=", 5), (1, "=", None)), (0,)), (((0, "=", 4),), ()), (((2, "=", None),), ())):
            told = kept_whole(self, meeting, store, "emp", conds)
            self.assertEqual(told, ids, conds)
            self.assertIsInstance(told, tuple)
            self.assertEqual(meeting(conds=conds, table="emp", store=store), ids)

    def test_indexes_and_tables_that_stand_by_turn_nothing(self):
        for indexes in ((), (0,), (0, 1, 9)):
            for store in ((EMP[:3] + (indexes,),), (STORE[0], EMP[:3] + (indexes,), STORE[2])):
                self.assertEqual(meeting(store, "emp", ((0, "=", 5),)), (0, 3))

    def test_a_table_that_isnt_there(self):
        for table in ("dep", "depts", "other"):
            self.assertEqual(meeting(STORE, table, ()), ())
            self.assertEqual(meeting((), table, ((0, "=", 7),)), ())
        self.assertEqual(meeting(STORE, "void", ()), ())


if __name__ == "__main__":
    unittest.main()
