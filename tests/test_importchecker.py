"""The checker of IMPORT PAPERS: points 45, 46 and 47."""

import random
import unittest

from tenanthall.errors import NoPaper
from tenanthall.importchecker import lets_import
from tenanthall.imports import imported
from tests.model import some_store
from tests.samples import SAID, bent, kept_whole, refusal

EU, US = "eu", "us"
TICK = 6
STORE = (("dept", 3, ((1, US, 0, (("link", "emp", 4),)),), (1,)), ("emp", 9, ((4, EU, 2, (7,)), (8, EU, 3, ())), (0,)))
# LINKS within, to its own ROW, LOOSE ones, and one to what only the STORE has.
PARTED = (("emp", 6, ((0, US, 1, (("link", "emp", 3), SAID)), (3, EU, 5, (("link", "emp", 3), ("link", "emp", 8), 4)),
                      (5, EU, 5, (("link", "team", 2), ("link", "team", 1)))), (0, 2)),
          ("team", 4, ((2, EU, 0, (("link", "emp", 0), None)),), ()), ("void", 5, (), (1,)))
ROWS = ((9, US, TICK, (("link", "emp", 10), SAID)), (10, EU, TICK, (("link", "emp", 10), None, 4)),
        (11, EU, TICK, (("link", "team", 0), None)))
NEWER = (STORE[0], ("emp", 12, STORE[1][2] + ROWS, (0, 2)),
         ("team", 1, ((0, EU, TICK, (("link", "emp", 9), None)),), ()), ("void", 0, (), (1,)))
PAPER = (("emp", 0, 9), ("emp", 3, 10), ("emp", 5, 11), ("team", 2, 0))


def lets(thing, newer=NEWER, store=STORE, parted=PARTED, tick=TICK):
    return lets_import(store, parted, newer, thing, tick=tick)


class LetBy(unittest.TestCase):

    def test_told(self):
        self.assertEqual(kept_whole(self, lets, PAPER, NEWER, STORE, PARTED), 4)
        self.assertEqual(lets_import(tick=TICK, thing=PAPER, newer=NEWER, parted=PARTED, store=STORE), 4)
        self.assertEqual(imported(STORE, PARTED, tick=TICK, land=EU)[:2], (NEWER, PAPER))
        with self.assertRaises(TypeError):
            lets_import(STORE, PARTED, NEWER, PAPER, TICK)

    def test_nothing(self):
        self.assertEqual(lets((), STORE, STORE, ()), 0)
        self.assertEqual(lets((), (), (), ()), 0)
        self.assertEqual(lets((), STORE + (("void", 0, (), ()),), STORE, (("void", 7, (), ()),)), 0)

    def test_any(self):
        chance = random.Random(46)
        pairs = 0
        for _ in range(200):
            store, parted, tick = some_store(chance), some_store(chance, tables=("dept", "emp", "eve")), chance.randrange(9)
            newer, paper, _ = imported(store, parted, tick=tick, land=EU)
            self.assertEqual(lets(paper, newer, store, parted, tick), len(paper))
            pairs += len(paper)
            for j, (table, number, at) in enumerate(paper):
                told = refusal(self, NoPaper, lets, bent(paper, (j, 2), at + 1), newer, store, parted, tick)
                self.assertEqual(told, {"word": "id", "at": j})
                for wrong in (paper[:j] + paper[j + 1:], bent(paper, (j, 1), number + 1), paper[:j] + paper[j:j + 1] + paper[j:]):
                    told = refusal(self, NoPaper, lets, wrong, newer, store, parted, tick)
                    self.assertEqual(told, {"word": "rows", "at": -1})
            if paper:
                told = refusal(self, NoPaper, lets, paper, newer, store, parted, tick + 1)
                self.assertEqual(told, {"word": "row", "at": 0})
        self.assertGreater(pairs, 500)


class Refused(unittest.TestCase):

    def refused(self, thing, *more):
        fields = refusal(self, NoPaper, lets, thing, *more)
        return fields["word"], fields["at"]

    def test_shape(self):
        for thing in (None, True, 4, "", [], list(PAPER), PAPER[0], PAPER + (None,), ((),), (PAPER[0][:2],),
                      (PAPER[0] + (1,),), (list(PAPER[0]),)):
            self.assertEqual(self.refused(thing), ("shape", -1), thing)
        for j in (0, 3):
            for wrong in ("", "Emp", "nine letters", None, True, 3, ["emp"]):
                self.assertEqual(self.refused(bent(PAPER, (j, 0), wrong)), ("shape", -1), wrong)
            for place in (1, 2):
                for wrong in (True, False, -1, None, "9", (9,), [9]):
                    self.assertEqual(self.refused(bent(PAPER, (j, place), wrong)), ("shape", -1), wrong)

    def test_rows(self):
        for thing in ((), PAPER[:3], PAPER[1:], PAPER + PAPER[3:], PAPER[1::-1] + PAPER[2:], PAPER[3:] + PAPER[:3],
                      PAPER + (("void", 0, 0),), bent(PAPER, (0, 1), 1), bent(PAPER, (3, 0), "emp"), bent(PAPER, (3, 1), 3),
                      bent(PAPER, (0, 0), "team"), PAPER[:1] + PAPER):
            self.assertEqual(self.refused(thing), ("rows", -1), thing)

    def test_id(self):
        for j, number in enumerate((9, 10, 11, 0)):
            for wrong in (number + 1, 4, 10 ** 90):
                self.assertEqual(self.refused(bent(PAPER, (j, 2), wrong)), ("id", j))
        exchanged = bent(bent(PAPER, (0, 2), 10), (1, 2), 9)
        self.assertEqual(self.refused(exchanged), ("id", 0))

    def test_row(self):
        for j, row in enumerate(ROWS):
            path = (1, 2, 2 + j)
            for wrong in (row[:1] + ("zz",) + row[2:], row[:2] + (TICK - 1,) + row[3:], row[:3] + (row[3][1:],),
                          row[:3] + (row[3][:-1] + (8,),)):
                self.assertEqual(self.refused(PAPER, bent(NEWER, path, wrong)), ("row", j), wrong)
            # There is none.
            newer = bent(NEWER, (1, 2), NEWER[1][2][:2 + j] + NEWER[1][2][3 + j:])
            self.assertEqual(self.refused(PAPER, newer), ("row", j))
        for newer in (NEWER[:2], NEWER[:2] + NEWER[3:], bent(NEWER, (2, 2), ())):
            self.assertEqual(self.refused(PAPER, newer), ("row", 3))

    def test_links_by_the_ids_that_rows_get(self):
        # As they were, to another ROW, LOOSE where it isn't, and not where it is.
        for path, wrong in (((1, 2, 2, 3, 0), ("link", "emp", 3)), ((1, 2, 2, 3, 0), ("link", "emp", 11)),
                            ((1, 2, 2, 3, 0), None), ((1, 2, 3, 3, 0), ("link", "emp", 9)), ((1, 2, 3, 3, 1), ("link", "emp", 8)),
                            ((1, 2, 4, 3, 0), ("link", "team", 2)), ((1, 2, 4, 3, 1), ("link", "team", 1)),
                            ((2, 2, 0, 3, 0), ("link", "emp", 0)), ((2, 2, 0, 3, 0), ("link", "dept", 1))):
            self.assertEqual(self.refused(PAPER, bent(NEWER, path, wrong)), ("row", path[2] - 2 if path[0] == 1 else 3))

    def test_not_by_the_ids_of_the_paper(self):
        # The paper and newer agree; the id comes ahead of the ROW.
        paper = bent(PAPER, (1, 2), 11)
        newer = bent(NEWER, (1, 2, 2, 3, 0), ("link", "emp", 11))
        self.assertEqual(self.refused(paper, newer), ("row", 0))
        self.assertEqual(self.refused(paper), ("id", 1))

    def test_rest(self):
        wrong = (bent(NEWER, (0, 1), 4), bent(NEWER, (1, 1), 13), bent(NEWER, (2, 1), 4), bent(NEWER, (3, 1), 5),
                 bent(NEWER, (1, 3), (0,)), bent(NEWER, (1, 3), (2,)), bent(NEWER, (3, 3), ()), bent(NEWER, (0, 3), (1, 2)),
                 NEWER[:3], NEWER[1:], NEWER + (("zz", 0, (), ()),), bent(NEWER, (1, 2), ROWS),
                 bent(NEWER, (1, 2, 0, 3, 0), 8), bent(NEWER, (1, 2, 0, 2), TICK), bent(NEWER, (0, 2), ()),
                 bent(NEWER, (0, 2, 0, 3, 0), None), bent(NEWER, (0, 2, 0), (2,) + NEWER[0][2][0][1:]),
                 bent(NEWER, (3,), ("void", 1, ((0, EU, TICK, ()),), (1,))))
        for newer in wrong:
            self.assertEqual(self.refused(PAPER, newer), ("rest", -1), newer)
        self.assertEqual(self.refused((), STORE, STORE, (("void", 0, (), ()),)), ("rest", -1))

    def test_the_first_that_is_due(self):
        self.assertEqual(self.refused(bent(PAPER, (3, 2), True)[1:]), ("shape", -1))
        self.assertEqual(self.refused(bent(PAPER, (0, 2), 0)[:3]), ("rows", -1))
        self.assertEqual(self.refused(bent(PAPER, (0, 2), 0), bent(NEWER, (1, 2, 2, 2), 0)), ("id", 0))
        self.assertEqual(self.refused(bent(PAPER, (1, 2), 0), bent(NEWER, (1, 2, 2, 2), 0)), ("row", 0))
        self.assertEqual(self.refused(bent(PAPER, (1, 2), 0), bent(NEWER, (1, 2, 3, 2), 0)), ("id", 1))
        self.assertEqual(self.refused(PAPER, bent(NEWER, (2, 2, 0, 2), 0)[1:]), ("row", 3))


if __name__ == "__main__":
    unittest.main()
