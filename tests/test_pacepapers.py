"""Pace papers: the last sentence of point 34."""

import unittest

from tenanthall.pacepapers import givens_of
from tests.samples import kept_whole

PAPER = ((0, "ann", 2), (0, "bob", 1), (0, "ann", 3), (2, "bob", 4), (3, "ann", 1), (3, "ann", 10 ** 20))


class Givens(unittest.TestCase):

    def test_added_tick_by_tick(self):
        told = kept_whole(self, lambda paper, name: givens_of(paper, name, ticks=5), PAPER, "ann")
        self.assertEqual(told, (5, 0, 0, 1 + 10 ** 20, 0))
        self.assertIsInstance(told, tuple)
        self.assertEqual(givens_of(ticks=4, name="bob", paper=PAPER), (1, 0, 4, 0))

    def test_one_for_each_tick(self):
        self.assertEqual(givens_of((), "ann", ticks=0), ())
        self.assertEqual(givens_of((), "ann", ticks=3), (0, 0, 0))

    def test_rows_behind_these_ticks_are_let_be(self):
        self.assertEqual(givens_of(PAPER, "ann", ticks=3), (5, 0, 0))
        self.assertEqual(givens_of(PAPER, "bob", ticks=1), (1,))

    def test_any_name(self):
        for name in ("cy", "an", "annn", "Ann", "", None, True, 0, ["ann"], ("ann",), ((),)):
            self.assertEqual(givens_of(PAPER, name, ticks=4), (0, 0, 0, 0))

    def test_ticks_by_name_alone(self):
        with self.assertRaises(TypeError):
            givens_of(PAPER, "ann", 4)


if __name__ == "__main__":
    unittest.main()
