"""The checker of MOVE PAPERS: points 39, 40, 42 and 43."""

import unittest

from tenanthall.errors import NoPaper
from tenanthall.movechecker import lets_move
from tests.samples import SAID, bent, kept_whole, refusal

EU, US = "eu", "us"
RULES = (("kept", US, 9), ("stay", EU), ("struck", US, 99))

# Old, and how it came to be so: ROWS copied two at a tick, with DEEDS meanwhile.
OLD = (("dept", 3, ((1, US, 0, (5,)), (2, US, 1, ())), (0,)),
       ("emp", 9, ((0, US, 0, (7, SAID)), (4, US, 2, (1,)), (7, US, 6, (-3, None)), (8, US, 6, ())), ()),
       ("void", 4, (), (1,)))
COPIED = ((4, "dept", (1, US, 0, (2,))), (4, "dept", (2, US, 1, ())), (5, "emp", (0, US, 0, (7, SAID))),
          (5, "emp", (3, US, 0, ())), (6, "emp", (4, US, 2, (1,))))
LOG = ((5, ("add", "dept", 1, 0, 3), 5), (5, ("index", "dept", 0), True), (6, ("put", "emp", US, (0, None)), 7),
       (6, ("drop", "emp", 3), True), (6, ("put", "emp", US, ()), 8), (6, ("set", "emp", 7, 0, -3), -3))
MOVED = ("moved", COPIED, LOG)
BREAKS = (6, ("put", "emp", EU, (1,)), 9)
BROKEN = ("broken", LOG + (BREAKS,))


def lets(thing, old=OLD, many=2, land=US, rules=RULES):
    return lets_move(old, thing, many=many, land=land, rules=rules)


class Case(unittest.TestCase):

    def refused(self, thing, **more):
        fields = refusal(self, NoPaper, lets, thing, **more)
        return fields["word"], fields["at"]


class LetBy(Case):

    def test_moved(self):
        self.assertEqual(kept_whole(self, lets, MOVED, OLD), "moved")
        self.assertEqual(lets_move(rules=RULES, land=US, many=2, thing=MOVED, old=OLD), "moved")
        self.assertEqual(lets(MOVED, many=10 ** 90), "moved")

    def test_broken(self):
        self.assertEqual(kept_whole(self, lets, BROKEN, OLD), "broken")
        self.assertEqual(lets(("broken", (BREAKS,))), "broken")
        # Of a MOVE that is BROKEN the STORE as it is tells nothing.
        self.assertEqual(lets(BROKEN, old=()), "broken")

    def test_nothing_moved(self):
        for old in ((), OLD[2:]):
            self.assertEqual(lets(("moved", (), ()), old=old), "moved")
        self.assertEqual(lets(("moved", (), LOG[1:2]), old=OLD[2:]), "moved")

    def test_rules_left_out(self):
        self.assertEqual(lets_move(OLD, MOVED, many=2, land="zz"), "moved")
        with self.assertRaises(TypeError):
            lets_move(OLD, MOVED, 2, US)

    def test_a_row_put_and_dropped_of_a_table_that_old_has_not(self):
        log = LOG + ((7, ("put", "eve", US, ()), 0), (8, ("drop", "eve", 0), True))
        self.assertEqual(lets(("moved", COPIED, log)), "moved")

    def test_deeds_of_rows_that_are_not_there(self):
        log = LOG + ((7, ("set", "emp", 1, 0, 5), 5), (8, ("add", "emp", 0, 2, 9), 9), (8, ("drop", "zz", 2), True))
        self.assertEqual(lets(("moved", COPIED, log)), "moved")

    def test_ticks_apart(self):
        for ticks in ((12, 12, 15, 15, 18), (0, 0, 1, 1, 2), (4, 9, 9, 10, 10), (1, 2, 3, 4, 5)):
            copied = tuple((tick,) + part[1:] for tick, part in zip(ticks, COPIED))
            self.assertEqual(lets(("moved", copied, LOG)), "moved")


class Shape(Case):

    def test_of_no_kind(self):
        for thing in (None, True, 1, "", "moved", (), ("moved",), ("broken",), ("moved", COPIED), ("broken", COPIED, LOG),
                      ("moved", LOG, COPIED), ("moved", COPIED, LOG, ()), ("broken", LOG, ()), list(MOVED), list(BROKEN),
                      ("Moved", COPIED, LOG), ("breaks", LOG), (True, COPIED, LOG), (["moved"], COPIED, LOG), (MOVED,)):
            self.assertEqual(self.refused(thing), ("shape", -1), thing)

    def test_rows_copied_bent(self):
        for wrong in (None, True, ((),), list(COPIED), COPIED[0], "", {}):
            self.assertEqual(self.refused(("moved", wrong, LOG)), ("shape", -1))
        for place, others in ((0, (True, -1, None, "4", (4,))), (1, ("", "Dept", "nine letters", None, True, 4, ["dept"])),
                              (2, (None, True, (), (0, US, 0), [1, US, 0, ()], (1, US, 0, (), ()), (True, US, 0, ()),
                                   (1, US, 0, (True,)), (1, US, 0, [2]), (-1, US, 0, ()), (1, "Us", 0, ())))):
            for k in (0, 4):
                for wrong in others:
                    self.assertEqual(self.refused(bent(MOVED, (1, k, place), wrong)), ("shape", -1), wrong)
        for wrong in (None, (), COPIED[0] + (1,), COPIED[0][:2], list(COPIED[0]), True):
            self.assertEqual(self.refused(bent(MOVED, (1, 4), wrong)), ("shape", -1), wrong)

    def test_logs_bent(self):
        for thing, at in ((MOVED, 2), (BROKEN, 1)):
            for wrong in (None, True, list(LOG), "", LOG[0], (None,), ((),), (LOG[0][:2],), (LOG[0] + (1,),), (list(LOG[0]),)):
                self.assertEqual(self.refused(bent(thing, (at,), wrong)), ("shape", -1), wrong)
            for k in (0, 5):
                for wrong in (True, -1, None, "4", [4]):
                    self.assertEqual(self.refused(bent(thing, (at, k, 0), wrong)), ("shape", -1), wrong)
                for wrong in (None, True, "put", (), ("put",), ("get", "emp", 3), ["drop", "emp", 3], ("drop", "emp", True),
                              ("set", "emp", 3, 0, "ann"), ("no", "row"), ("add", "emp", 3, 0, None)):
                    self.assertEqual(self.refused(bent(thing, (at, k, 1), wrong)), ("shape", -1), wrong)


class Logs(Case):

    def test_a_tick_less_than_the_one_ahead(self):
        for k in range(1, 6):
            for thing, at in ((MOVED, 2), (BROKEN, 1)):
                told = self.refused(bent(thing, (at, k, 0), thing[at][k - 1][0] - 1))
                self.assertEqual(told, ("log", k))
                later = self.refused(bent(thing, (at, k - 1, 0), 99))
                self.assertEqual(later, ("log", k))

    def test_what_it_told_is_none_by_kind(self):
        wrong = {"put": (None, True, -1, "7", ("no", "stay"), (7,), SAID), "set": (True, "ann", (), [1], ("no", "kept")),
                 "add": (False, "5", (5,), [5], ("no", "worth")), "drop": (1, None, False, 0, "True", (True,), ("no", "row")),
                 "index": (1, None, False, 5, [True])}
        for k, (_, deed, _) in enumerate(LOG):
            for told in wrong[deed[0]]:
                self.assertEqual(self.refused(bent(MOVED, (2, k, 2), told)), ("log", k), told)
                self.assertEqual(self.refused(bent(BROKEN, (1, k, 2), told)), ("log", k), told)

    def test_any_value_of_set_and_add(self):
        for told in (None, -5, SAID, ("link", "emp", 3)):
            for word in ("set", "add"):
                self.assertEqual(lets(("moved", COPIED, LOG + ((9, (word, "zz", 1, 0, 5), told),))), "moved")

    def test_the_first_one(self):
        self.assertEqual(self.refused(bent(bent(MOVED, (2, 4, 2), None), (2, 2, 2), True)), ("log", 2))
        self.assertEqual(self.refused(bent(bent(MOVED, (2, 4, 0), 0), (2, 5, 2), True)), ("log", 4))


class Moved(Case):

    def test_breaks(self):
        for k in range(7):
            log = LOG[:k] + ((LOG[k - 1][0] if k else 0,) + BREAKS[1:],) + LOG[k:]
            self.assertEqual(self.refused(("moved", COPIED, log)), ("breaks", k))
        self.assertEqual(self.refused(("moved", COPIED, LOG + (BREAKS, BREAKS))), ("breaks", 6))
        self.assertEqual(self.refused(("moved", COPIED, LOG[:3] + (BREAKS,) + LOG[3:] + (BREAKS,))), ("breaks", 3))

    def test_by_the_rules_and_the_land(self):
        self.assertEqual(self.refused(MOVED, rules=(("stay", US),), land=EU), ("breaks", 2))
        self.assertEqual(lets(MOVED, rules=(("stay", US),)), "moved")

    def test_row(self):
        # Not above that ahead: the same one, one below, one of a table ahead.
        self.assertEqual(self.refused(("moved", COPIED[:2] + COPIED[1:], LOG)), ("row", 2))
        self.assertEqual(self.refused(("moved", COPIED[1::-1] + COPIED[2:], LOG)), ("row", 1))
        self.assertEqual(self.refused(("moved", COPIED[2:] + COPIED[:2], LOG)), ("row", 3))
        # Of a table that old hasn't.
        for k, table in ((0, "aa"), (1, "depu"), (4, "zz")):
            self.assertEqual(self.refused(bent(MOVED, (1, k, 1), table)), ("row", k))

    def test_tick(self):
        for k in range(1, 5):
            self.assertEqual(self.refused(bent(MOVED, (1, k, 0), 3)), ("tick", k))
        self.assertEqual(self.refused(bent(MOVED, (1, 0, 0), 99)), ("tick", 1))

    def test_many(self):
        self.assertEqual(self.refused(MOVED, many=1), ("many", 1))
        same_tick = tuple((4,) + part[1:] for part in COPIED)
        for many in (1, 2, 3, 4):
            self.assertEqual(self.refused(("moved", same_tick, LOG), many=many), ("many", many))
        self.assertEqual(lets(("moved", same_tick, LOG), many=5), "moved")
        self.assertEqual(self.refused(bent(MOVED, (1, 4, 0), 5)), ("many", 4))

    def test_store(self):
        self.assertEqual(self.refused(MOVED, old=bent(OLD, (0, 2, 0, 3), (6,))), ("store", -1))
        for k in range(5):
            # A ROW of old lacks; without the one that the LOG drops all is whole still.
            thing = ("moved", COPIED[:k] + COPIED[k + 1:], LOG)
            if k == 3:
                self.assertEqual(lets(thing), "moved")
            else:
                self.assertEqual(self.refused(thing), ("store", -1))
        for k in (0, 2, 3, 4, 5):
            self.assertEqual(self.refused(("moved", COPIED, LOG[:k] + LOG[k + 1:])), ("store", -1), k)
        for row in ((4, US, 2, (2,)), (4, EU, 2, (1,)), (4, US, 3, (1,)), (5, US, 2, (1,)), (4, US, 2, ())):
            self.assertEqual(self.refused(bent(MOVED, (1, 4, 2), row)), ("store", -1))
        for told in (8, 10, 3):
            self.assertEqual(self.refused(bent(MOVED, (2, 2, 2), told)), ("store", -1))
        self.assertEqual(self.refused(("moved", COPIED, LOG + ((9, ("put", "dept", US, ()), 3),))), ("store", -1))
        self.assertEqual(self.refused(("moved", (), ()),), ("store", -1))

    def test_a_row_is_left_of_a_table_that_old_has_not(self):
        self.assertEqual(self.refused(("moved", COPIED, LOG + ((9, ("put", "zz", US, ()), 0),))), ("store", -1))
        self.assertEqual(self.refused(("moved", (), ((9, ("put", "zz", US, ()), 0),)), old=()), ("store", -1))

    def test_nexts_and_indexes_are_no_matter_of_it(self):
        for old in (bent(OLD, (1, 1), 99), bent(OLD, (1, 3), (4, 7)), OLD[:2], OLD + (("zz", 9, (), ()),)):
            self.assertEqual(lets(MOVED, old=old), "moved")

    def test_the_first_that_is_due(self):
        bad_log, bad_row = bent(MOVED, (2, 5, 2), True), bent(MOVED, (1, 0, 1), "zz")
        self.assertEqual(self.refused(bent(bad_log, (1, 0, 0), True)), ("shape", -1))
        self.assertEqual(self.refused(bent(bad_log, (2, 0), BREAKS)), ("log", 1))
        self.assertEqual(self.refused(("moved", bad_row[1], LOG + (BREAKS,))), ("breaks", 6))
        self.assertEqual(self.refused(bent(MOVED, (1, 1), (0, "dept", (1, US, 0, ())))), ("row", 1))
        self.assertEqual(self.refused(bent(MOVED, (1, 1, 0), 0), many=1), ("tick", 1))
        self.assertEqual(self.refused(MOVED, many=1, old=OLD[:2] + (("void", 4, ((0, US, 0, ()),), ()),)), ("many", 1))
        # Row by row: that of the first row goes.
        self.assertEqual(self.refused(bent(bent(MOVED, (1, 1, 0), 0), (1, 2, 1), "zz")), ("tick", 1))


class Broken(Case):

    def test_in_the_middle(self):
        for k in range(6):
            breaks = (LOG[k][0],) + BREAKS[1:]
            self.assertEqual(self.refused(bent(BROKEN, (1, k), breaks)), ("breaks", k))
            self.assertEqual(self.refused(("broken", bent(LOG, (k,), breaks) + LOG[5:])), ("breaks", k))
        self.assertEqual(self.refused(("broken", LOG + (BREAKS, BREAKS))), ("breaks", 6))

    def test_the_last_one_does_not_or_there_is_none(self):
        self.assertEqual(self.refused(("broken", LOG)), ("breaks", -1))
        self.assertEqual(self.refused(("broken", ())), ("breaks", -1))
        self.assertEqual(self.refused(BROKEN, rules=()), ("breaks", -1))
        self.assertEqual(self.refused(BROKEN, land=EU), ("breaks", -1))
        self.assertEqual(self.refused(("broken", (BREAKS,) + LOG[5:])), ("breaks", 0))

    def test_the_first_that_is_due(self):
        self.assertEqual(self.refused(("broken", (BREAKS, (5,) + BREAKS[1:]))), ("log", 1))
        self.assertEqual(self.refused(("broken", (BREAKS, (7, ("drop", "emp", 3), False)))), ("log", 1))


if __name__ == "__main__":
    unittest.main()
