"""REACH PAPERS and their checker: point 64."""

import random
import unittest

from tenanthall.errors import NoPaper
from tenanthall.places import due_in
from tenanthall.reachchecker import lets_reach
from tenanthall.reachpapers import reach_paper
from tests.model import some_store
from tests.samples import bent, kept_whole, refusal

EU, US = "eu", "us"
RULES = (("kept", EU, 3), ("stay", US), ("struck", EU, 4), ("struck", US, 2), ("told", US))
TICK = 6

# At tick 6 eu is DUE if born at 2 or ahead, us if born at 4 or ahead.
STORE = (("dept", 2, ((1, US, 4, ()),), ()),
         ("emp", 9, ((0, EU, 0, (7,)), (2, EU, 3, ()), (5, US, 5, ()), (6, US, 0, ()), (8, "zz", 0, ())), ()))
LOG = ((1, ("put", "emp", US, ()), 4), (2, ("put", "dept", EU, ()), 3), (2, ("set", "emp", 0, 0, 7), 7),
       (3, ("put", "emp", EU, ()), 7), (4, ("drop", "emp", 4), True))
PLACES = (("log", LOG), ("store", STORE), ("copy", ()), ("log", ()), ("store", STORE[:1]))
PAPER = ((0, "dept", 3, 2), (0, "emp", 4, 3), (1, "dept", 1, 3), (1, "emp", 0, 2), (1, "emp", 6, 3), (4, "dept", 1, 3))


def paper_of(places, rules=RULES, tick=TICK):
    return reach_paper(places, rules=rules, tick=tick)


class Papers(unittest.TestCase):

    def test_told(self):
        told = kept_whole(self, paper_of, PLACES, RULES)
        self.assertEqual(told, PAPER)
        self.assertIsInstance(told, tuple)
        self.assertEqual(reach_paper(tick=TICK, rules=RULES, places=PLACES), PAPER)

    def test_the_place_of_the_rule_among_all(self):
        for rules, place in (((("struck", EU, 4),), 0), (RULES[:3], 2), ((("struck", "aa", 1), ("struck", EU, 4)), 1)):
            self.assertEqual(paper_of((("store", STORE),), rules), ((0, "emp", 0, place),))

    def test_nothing_due(self):
        self.assertEqual(paper_of(()), ())
        self.assertEqual(paper_of(PLACES, RULES[:2] + RULES[4:]), ())
        self.assertEqual(paper_of(PLACES, tick=1), ())

    def test_nothing_twice(self):
        log = ((0, ("put", "emp", EU, ()), 4), (1, ("put", "emp", EU, ()), 4))
        self.assertEqual(paper_of((("log", log),)), ((0, "emp", 4, 2),))

    def test_kept_are_not_due(self):
        self.assertEqual(paper_of(PLACES, (("kept", EU, 7), ("struck", EU, 4))), ())
        self.assertEqual(paper_of(PLACES, (("kept", EU, 6), ("struck", EU, 4))), ((1, "emp", 0, 1),))

    def test_what_is_told_is_let_by(self):
        chance = random.Random(64)
        found = 0
        for _ in range(200):
            log = tuple((chance.randrange(5), ("put", chance.choice(("dept", "emp")), chance.choice((EU, US)), ()), number)
                        for number in chance.sample(range(9), 4))
            places = (("store", some_store(chance)), ("log", log), ("backup", some_store(chance)))
            tick = chance.randrange(4, 9)
            paper = paper_of(places, tick=tick)
            self.assertEqual(tuple(row[:3] for row in paper), due_in(places, rules=RULES, tick=tick))
            self.assertEqual(lets_reach(places, paper, rules=RULES, tick=tick), len(paper))
            found += len(paper)
            for k, row in enumerate(paper):
                fields = refusal(self, NoPaper, lets_reach, places, paper[:k] + paper[k + 1:], rules=RULES, tick=tick)
                self.assertEqual(fields, {"word": "few", "at": row[:3]})
        self.assertGreater(found, 200)

    def test_arguments_by_name_alone(self):
        with self.assertRaises(TypeError):
            reach_paper(PLACES, RULES, TICK)
        with self.assertRaises(TypeError):
            lets_reach(PLACES, PAPER, RULES, TICK)


class Checker(unittest.TestCase):

    def refused(self, thing, places=PLACES, rules=RULES, tick=TICK):
        fields = refusal(self, NoPaper, lets_reach, places, thing, rules=rules, tick=tick)
        return fields["word"], fields["at"]

    def test_let_by(self):
        told = kept_whole(self, lambda places, thing: lets_reach(places, thing, rules=RULES, tick=TICK), PLACES, PAPER)
        self.assertEqual(told, 6)
        self.assertEqual(lets_reach(tick=TICK, rules=RULES, thing=PAPER, places=PLACES), 6)
        self.assertEqual(lets_reach((), (), rules=RULES, tick=TICK), 0)
        self.assertEqual(lets_reach(PLACES, (), rules=(), tick=TICK), 0)

    def test_shape(self):
        for thing in (None, True, 0, "", [], list(PAPER), PAPER[0], PAPER + (None,), ((),), (PAPER[0][:3],),
                      (PAPER[0] + (1,),), (list(PAPER[0]),)):
            self.assertEqual(self.refused(thing), ("shape", -1), thing)
        for place in (0, 2, 3):
            for wrong in (True, -1, None, "0", (0,), [0]):
                self.assertEqual(self.refused(bent(PAPER, (4, place), wrong)), ("shape", -1))
        for wrong in ("", "Emp", "nine letters", None, 1, True, ["emp"]):
            self.assertEqual(self.refused(bent(PAPER, (4, 1), wrong)), ("shape", -1))

    def test_row(self):
        for row in ((5, "dept", 1, 3), (10 ** 40, "dept", 1, 3), (2, "dept", 1, 3), (3, "emp", 4, 3), (1, "dept", 0, 3),
                    (1, "eve", 1, 3), (4, "emp", 0, 2), (0, "emp", 0, 2), (0, "dept", 4, 2), (1, "emp", 10 ** 40, 2),
                    (0, "dept", 7, 2)):
            self.assertEqual(self.refused((row,)), ("row", 0), row)
            self.assertEqual(self.refused(PAPER[:1] + (row,)), ("row", 1), row)

    def test_rule(self):
        # None of this number, of another word, of another land, not DUE yet.
        for rule in (0, 1, 3, 4, 5, 10 ** 40):
            self.assertEqual(self.refused((PAPER[0][:3] + (rule,),)), ("rule", 0), rule)
        for rule in (0, 1, 2, 4, 5):
            self.assertEqual(self.refused((PAPER[0], PAPER[1][:3] + (rule,))), ("rule", 1), rule)
        for spot in ((1, "emp", 2), (0, "emp", 7)):
            self.assertEqual(self.refused((spot + (2,),)), ("rule", 0))
        self.assertEqual(self.refused(((1, "emp", 5, 3),)), ("rule", 0))
        self.assertEqual(self.refused(((1, "emp", 8, 3),)), ("rule", 0))

    def test_rule_of_kept_rows(self):
        rules = (("kept", EU, 7), ("struck", EU, 4))
        self.assertEqual(self.refused(((1, "emp", 0, 1),), rules=rules), ("rule", 0))
        self.assertEqual(self.refused(((1, "emp", 0, 0),), rules=rules), ("rule", 0))

    def test_order(self):
        self.assertEqual(self.refused((PAPER[1], PAPER[0])), ("order", 1))
        self.assertEqual(self.refused(PAPER + PAPER[5:]), ("order", 6))
        self.assertEqual(self.refused(PAPER[:3] + PAPER[2:]), ("order", 3))
        self.assertEqual(self.refused(PAPER[4:5] + PAPER[3:4]), ("order", 1))

    def test_few(self):
        for k, row in enumerate(PAPER):
            self.assertEqual(self.refused(PAPER[:k] + PAPER[k + 1:]), ("few", row[:3]))
        self.assertEqual(self.refused(()), ("few", (0, "dept", 3)))
        self.assertEqual(self.refused(PAPER[1:2]), ("few", (0, "dept", 3)))
        self.assertEqual(self.refused(PAPER[:2] + PAPER[4:5]), ("few", (1, "dept", 1)))

    def test_the_first_that_is_due(self):
        self.assertEqual(self.refused(((9, "eve", 9, 9), (0, "dept", 3))), ("shape", -1))
        self.assertEqual(self.refused(((9, "dept", 3, 9),)), ("row", 0))
        self.assertEqual(self.refused((PAPER[1], (0, "dept", 3, 3))), ("rule", 1))
        self.assertEqual(self.refused((PAPER[1], (0, "dept", 9, 3))), ("row", 1))
        self.assertEqual(self.refused((PAPER[1], PAPER[0], (9, "eve", 9, 9))), ("order", 1))
        self.assertEqual(self.refused((PAPER[1][:3] + (9,), (9, "eve", 9, 9))), ("rule", 0))
        self.assertEqual(self.refused(PAPER[1:] + ((9, "eve", 9, 9),)), ("row", 5))

    def test_a_put_that_the_log_drops_later(self):
        places = (("log", ((0, ("put", "emp", EU, ()), 4), (1, ("drop", "emp", 4), True))),)
        self.assertEqual(lets_reach(places, ((0, "emp", 4, 2),), rules=RULES, tick=TICK), 1)
        self.assertEqual(self.refused((), places), ("few", (0, "emp", 4)))


if __name__ == "__main__":
    unittest.main()
