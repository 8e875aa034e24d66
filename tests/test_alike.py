"""PAPERS of two rows of STEPS, and their checker: point 76."""

import itertools
import unittest

from tenanthall.alikechecker import lets_alike
from tenanthall.alikepapers import alike_paper
from tenanthall.errors import NoPaper
from tests.samples import kept_whole, refusal

ANN = ("job", "ann", ("get", "emp", 3))
ANN_OTHER = ("job", "ann", ("get", "emp", 4))
BOB = ("job", "bob", ("get", "emp", 3))
TICK = ("tick", ())
TICK_BOTH = ("tick", (("bob", 2), ("ann", 1)))
TICK_ANN = ("tick", (("ann", 1),))
TICK_BOB = ("tick", (("bob", 2),))
ALL_BOB = ("all", (BOB,))
ALL_VOID = ("all", ())

ONE = (BOB, ANN, TICK_BOTH, BOB, ALL_BOB, TICK)
OTHER = (ANN, TICK_ANN, BOB, BOB, ALL_VOID, TICK_BOB)
PAPER = ((1, 0), (2, 1), (4, 4), (5, 5))


class Papers(unittest.TestCase):

    def test_told(self):
        self.assertEqual(kept_whole(self, alike_paper, ONE, OTHER, "ann"), PAPER)
        self.assertEqual(alike_paper(name="ann", other=ONE, one=OTHER), tuple((j, i) for i, j in PAPER))
        self.assertEqual(alike_paper((), (), "ann"), ())
        self.assertEqual(alike_paper((BOB,), (), "ann"), ())
        self.assertEqual(alike_paper((BOB, BOB), (BOB,), "ann"), ())

    def test_none_where_there_is_none(self):
        for one, other in (((ANN,), ()), ((), (ANN,)), ((TICK,), ()), ((ALL_BOB,), (BOB,)), ((ANN,), (ANN_OTHER,)),
                           ((ANN, TICK), (TICK, ANN)), ((TICK,), (TICK_ANN,)), ((ANN, ANN), (ANN,)), (ONE, OTHER[:5])):
            self.assertIsNone(alike_paper(one, other, "ann"))

    def test_what_is_told_is_let_by(self):
        steps = (ANN, BOB, TICK, TICK_BOTH, ALL_BOB)
        rows = [row for many in range(4) for row in itertools.product(steps, repeat=many)]
        found = 0
        for one in rows[:40]:
            for other in rows:
                paper = alike_paper(one, other, "ann")
                if paper is not None:
                    found += 1
                    self.assertEqual(lets_alike(one, other, "ann", paper), len(paper))
        self.assertGreater(found, 40)


class Checker(unittest.TestCase):

    def refused(self, thing, one=ONE, other=OTHER):
        fields = refusal(self, NoPaper, lets_alike, one, other, "ann", thing)
        return fields["word"], fields["at"]

    def test_let_by(self):
        self.assertEqual(kept_whole(self, lets_alike, ONE, OTHER, "ann", PAPER), 4)
        self.assertEqual(lets_alike(thing=PAPER, name="ann", other=OTHER, one=ONE), 4)
        self.assertEqual(lets_alike((), (), "ann", ()), 0)
        self.assertEqual(lets_alike((BOB,), (BOB,), "ann", ()), 0)

    def test_both_nothing_may_be_a_pair(self):
        self.assertEqual(lets_alike((BOB,), (BOB,), "ann", ((0, 0),)), 1)
        self.assertEqual(lets_alike(ONE, OTHER, "ann", ((1, 0), (2, 1), (3, 2), (4, 4), (5, 5))), 5)

    def test_shape(self):
        for thing in (None, True, 1, "", [], list(PAPER), (1, 2), ((1, 0, 0),), ((1,),), ([1, 0],), (None,), ((),),
                      ((1, True),), ((True, 0),), ((-1, 0),), ((0, -1),), ((0, None),), (("1", 0),), PAPER + (1,)):
            self.assertEqual(self.refused(thing), ("shape", -1), thing)

    def test_place(self):
        self.assertEqual(self.refused(((6, 0),)), ("place", 0))
        self.assertEqual(self.refused(((1, 6),)), ("place", 0))
        self.assertEqual(self.refused(((1, 0), (2, 10 ** 40))), ("place", 1))
        self.assertEqual(self.refused(((0, 0),), (), ()), ("place", 0))

    def test_order(self):
        self.assertEqual(self.refused(((1, 0), (1, 1))), ("order", 1))
        self.assertEqual(self.refused(((1, 0), (2, 0))), ("order", 1))
        self.assertEqual(self.refused(((2, 1), (1, 0))), ("order", 1))

    def test_same(self):
        self.assertEqual(self.refused(((0, 0),)), ("same", 0))
        self.assertEqual(self.refused(((1, 0), (2, 2))), ("same", 1))
        self.assertEqual(self.refused(((0, 0),), (ANN,), (ANN_OTHER,)), ("same", 0))
        self.assertEqual(self.refused(((0, 0),), (TICK,), (BOB,)), ("same", 0))
        self.assertEqual(self.refused(((0, 0),), (ALL_BOB,), (BOB,)), ("same", 0))

    def test_left(self):
        self.assertEqual(self.refused(()), ("left", (0, 1)))
        self.assertEqual(self.refused(PAPER[1:]), ("left", (0, 1)))
        self.assertEqual(self.refused(PAPER[:2]), ("left", (0, 4)))
        self.assertEqual(self.refused((), (BOB,), OTHER), ("left", (1, 0)))
        self.assertEqual(self.refused(((0, 0),), (ANN,), (ANN, BOB, TICK)), ("left", (1, 2)))
        self.assertEqual(self.refused((), (TICK,), ()), ("left", (0, 0)))
        self.assertEqual(self.refused((), (), (ALL_BOB,)), ("left", (1, 0)))

    def test_the_first_that_is_due(self):
        self.assertEqual(self.refused(((9, 9), (1, 0, 0))), ("shape", -1))
        self.assertEqual(self.refused(((1, 0), (0, 9))), ("place", 1))
        self.assertEqual(self.refused(((1, 0), (0, 1))), ("order", 1))
        self.assertEqual(self.refused(((0, 0), (9, 9))), ("same", 0))
        self.assertEqual(self.refused(((1, 0), (3, 1))), ("same", 1))


if __name__ == "__main__":
    unittest.main()
