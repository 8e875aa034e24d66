"""EXPORTS: point 44."""

import unittest

from tenanthall.exports import exported, letters
from tenanthall.readings import read_store
from tests.samples import STORE, STORE_TEXT, kept_whole


class Exports(unittest.TestCase):

    def test_exported(self):
        self.assertEqual(kept_whole(self, exported, STORE), STORE_TEXT)
        self.assertEqual(exported(store=()), "")
        self.assertEqual(read_store(exported(STORE)), STORE)

    def test_letters(self):
        self.assertEqual(kept_whole(self, letters, STORE), len(STORE_TEXT))
        self.assertEqual(letters(store=()), 0)
        self.assertEqual(letters((("a", 0, (), ()), ("b", 0, (), ()))), len("table a 0 -") * 2 + 1)


if __name__ == "__main__":
    unittest.main()
