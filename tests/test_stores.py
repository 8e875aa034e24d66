"""What is told of STORES: point 11."""

import unittest

from tenanthall import stores
from tests.samples import STORE, kept_whole

MISSING = ("dep", "depts", "other")


class Tables(unittest.TestCase):

    def test_tables(self):
        self.assertEqual(kept_whole(self, stores.tables_of, STORE), ("dept", "emp", "void"))
        self.assertEqual(stores.tables_of(store=()), ())
        self.assertIsInstance(stores.tables_of(STORE), tuple)

    def test_rows(self):
        self.assertEqual(kept_whole(self, stores.rows_of, STORE, "emp"), STORE[1][2])
        self.assertEqual(stores.rows_of(table="void", store=STORE), ())
        for table in MISSING:
            self.assertEqual(stores.rows_of(STORE, table), ())

    def test_next(self):
        self.assertEqual([stores.next_of(STORE, table) for table in ("dept", "emp", "void")], [1, 5, 0])
        self.assertEqual(stores.next_of(table="emp", store=STORE), 5)
        for table in MISSING:
            self.assertEqual(stores.next_of(STORE, table), 0)

    def test_indexes(self):
        self.assertEqual([stores.indexes_of(STORE, table) for table in ("dept", "emp", "void")], [(), (0, 2), (1,)])
        self.assertEqual(stores.indexes_of(table="emp", store=STORE), (0, 2))
        for table in MISSING:
            self.assertEqual(stores.indexes_of(STORE, table), ())

    def test_a_store_of_nothing(self):
        self.assertEqual(stores.rows_of((), "emp"), ())
        self.assertEqual(stores.next_of((), "emp"), 0)
        self.assertEqual(stores.indexes_of((), "emp"), ())
        self.assertIsNone(stores.row_of((), "emp", 0))
        self.assertEqual(stores.many_rows(()), 0)


class Rows(unittest.TestCase):

    def test_row(self):
        self.assertEqual(kept_whole(self, stores.row_of, STORE, "emp", 3), STORE[1][2][1])
        self.assertEqual(stores.row_of(id_told=0, table="emp", store=STORE), STORE[1][2][0])
        self.assertEqual(stores.row_of(STORE, "dept", 0), (0, "eu", 0, ()))

    def test_none_where_there_is_none(self):
        # The ids 1, 2, 4 of emp were dropped, 5 is its next.
        for number in (1, 2, 4, 5, 6, -1, 10 ** 200):
            self.assertIsNone(stores.row_of(STORE, "emp", number))
        for table in MISSING + ("void",):
            self.assertIsNone(stores.row_of(STORE, table, 0))

    def test_any_thing_as_an_id(self):
        store = (("emp", 2, ((0, "eu", 0, ()), (1, "eu", 0, ())), ()),)
        for thing in (True, False, None, "", "0", "1", (), (0,), [], [1], ((0, "eu", 0, ()),)):
            self.assertIsNone(stores.row_of(store, "emp", thing), thing)

    def test_many_rows(self):
        self.assertEqual(kept_whole(self, stores.many_rows, STORE), 3)
        self.assertEqual(stores.many_rows(store=STORE[2:]), 0)


if __name__ == "__main__":
    unittest.main()
