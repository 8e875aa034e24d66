"""RULES: point 61."""

import unittest

from tenanthall import rules
from tests.samples import bent, kept_whole

EU, US = "eu", "us"

# Born at 0 to 5, in two lands.
STORE = (
    ("dept", 2, ((1, EU, 5, ()),), ()),
    ("emp", 9, ((0, EU, 0, (7,)), (2, US, 1, ()), (3, EU, 2, ()), (5, EU, 4, ()), (8, "zz", 0, ())), (0,)),
    ("void", 3, (), (1, 2)),
)


class Kinds(unittest.TestCase):

    def test_rules(self):
        for thing in ((), (("stay", EU),), (("kept", EU, 1), ("stay", EU), ("struck", EU, 1), ("told", EU)),
                      (("kept", EU, 9), ("kept", US, 1)), (("told", "a"), ("told", "abcdefgh"))):
            self.assertIs(kept_whole(self, rules.is_rules, thing), True)
        for thing in (None, True, 0, "", [], [("stay", EU)], ("stay", EU), (("stay", EU), None), (["stay", EU],),
                      ((),), ((["stay"], EU),), (("stay", EU, 1),), (("kept", EU),), (("gone", EU),)):
            self.assertIs(rules.is_rules(thing=thing), False, thing)

    def test_bent(self):
        thing = (("kept", EU, 4), ("stay", EU), ("struck", EU, 9), ("told", EU))
        for place in range(4):
            for wrong in ("", "nine letters", "Eu", None, True, 1, ["eu"]):
                self.assertIs(rules.is_rules(bent(thing, (place, 1), wrong)), False)
        for place in (0, 2):
            for wrong in (0, -1, True, None, "4", (4,)):
                self.assertIs(rules.is_rules(bent(thing, (place, 2), wrong)), False)

    def test_rising_with_no_word_and_land_twice(self):
        for thing in ((("stay", EU), ("kept", EU, 4)), (("kept", US, 4), ("kept", EU, 4)),
                      (("stay", EU), ("stay", EU)), (("kept", EU, 4), ("kept", EU, 5)),
                      (("kept", EU, 5), ("kept", EU, 4)), (("told", US), ("told", EU))):
            self.assertIs(rules.is_rules(thing), False, thing)


class Reach(unittest.TestCase):

    def test_reached(self):
        for rule in (("stay", EU), ("kept", EU, 4), ("struck", EU, 1), ("told", EU)):
            self.assertEqual(kept_whole(self, rules.reached, STORE, rule),
                             (("dept", 1), ("emp", 0), ("emp", 3), ("emp", 5)))
        self.assertEqual(rules.reached(rule=("told", US), store=STORE), (("emp", 2),))
        self.assertEqual(rules.reached(STORE, ("told", "e")), ())
        self.assertEqual(rules.reached((), ("told", EU)), ())

    def kept(self, some, tick):
        return kept_whole(self, lambda store, rules_told: rules.kept_rows(store, rules=rules_told, tick=tick), STORE, some)

    def due(self, some, tick):
        return kept_whole(self, lambda store, rules_told: rules.due_rows(store, rules=rules_told, tick=tick), STORE, some)

    def test_kept_while_below_its_ticks(self):
        some = (("kept", EU, 3),)
        self.assertEqual(self.kept(some, 2), (("dept", 1), ("emp", 0), ("emp", 3), ("emp", 5)))
        self.assertEqual(self.kept(some, 3), (("dept", 1), ("emp", 3), ("emp", 5)))
        self.assertEqual(self.kept(some, 6), (("dept", 1), ("emp", 5)))
        self.assertEqual(self.kept(some, 7), (("dept", 1),))
        self.assertEqual(self.kept(some, 8), ())

    def test_due_from_its_ticks_on(self):
        some = (("struck", EU, 3),)
        self.assertEqual(self.due(some, 2), ())
        self.assertEqual(self.due(some, 3), (("emp", 0),))
        self.assertEqual(self.due(some, 4), (("emp", 0),))
        self.assertEqual(self.due(some, 5), (("emp", 0), ("emp", 3)))
        self.assertEqual(self.due(some, 7), (("emp", 0), ("emp", 3), ("emp", 5)))
        self.assertEqual(self.due(some, 8), (("dept", 1), ("emp", 0), ("emp", 3), ("emp", 5)))

    def test_kept_longer_than_struck(self):
        some = (("kept", EU, 5), ("struck", EU, 3))
        self.assertEqual(self.due(some, 4), ())
        self.assertEqual(self.due(some, 5), (("emp", 0),))
        self.assertEqual(self.due((("kept", EU, 2), ("struck", EU, 3)), 3), (("emp", 0),))
        for tick in range(15):
            self.assertFalse(set(self.kept(some, tick)) & set(self.due(some, tick)))

    def test_rules_of_another_land_and_of_other_words_reach_nothing(self):
        others = (("kept", US, 100), ("stay", EU), ("told", EU))
        self.assertEqual(self.kept(others, 3), (("emp", 2),))
        self.assertEqual(self.due(others, 100), ())
        some = tuple(sorted(others + (("struck", EU, 3),)))
        self.assertEqual(self.due(some, 3), (("emp", 0),))
        self.assertEqual(self.due((), 100), ())
        self.assertEqual(self.kept((), 0), ())

    def test_each_land_by_its_own(self):
        some = (("kept", US, 3), ("struck", EU, 5), ("struck", US, 1))
        self.assertEqual(self.due(some, 3), ())
        self.assertEqual(self.due(some, 4), (("emp", 2),))
        self.assertEqual(self.due(some, 5), (("emp", 0), ("emp", 2)))

    def test_strays(self):
        some = (("kept", US, 4), ("stay", EU), ("struck", "zz", 1))
        self.assertEqual(rules.strays(STORE, rules=some, land=EU), ())
        self.assertEqual(rules.strays(land=US, rules=some, store=STORE),
                         (("dept", 1), ("emp", 0), ("emp", 3), ("emp", 5)))
        self.assertEqual(rules.strays(STORE, rules=(("stay", EU), ("stay", US)), land="zz"),
                         (("dept", 1), ("emp", 0), ("emp", 2), ("emp", 3), ("emp", 5)))
        self.assertEqual(rules.strays(STORE, rules=(), land="zz"), ())
        self.assertEqual(rules.strays((), rules=some, land=US), ())


class Striking(unittest.TestCase):

    def test_struck(self):
        some = (("kept", EU, 4), ("struck", EU, 3), ("struck", US, 2))
        told = kept_whole(self, lambda store: rules.store_struck(store, rules=some, tick=7), STORE)
        emp = STORE[1]
        self.assertEqual(told, (STORE[0], ("emp", 9, (emp[2][3], emp[2][4]), (0,)), STORE[2]))
        self.assertEqual(rules.due_rows(told, rules=some, tick=7), ())
        self.assertEqual(rules.store_struck(tick=0, rules=some, store=STORE), STORE)

    def test_tables_stay_without_rows(self):
        some = (("struck", EU, 1), ("struck", US, 1), ("struck", "zz", 1))
        self.assertEqual(rules.store_struck(STORE, rules=some, tick=50),
                         (("dept", 2, (), ()), ("emp", 9, (), (0,)), ("void", 3, (), (1, 2))))
        self.assertEqual(rules.store_struck((), rules=some, tick=50), ())

    def test_rules_and_tick_by_name_alone(self):
        for call in (rules.kept_rows, rules.due_rows, rules.store_struck):
            with self.assertRaises(TypeError):
                call(STORE, (), 3)
        with self.assertRaises(TypeError):
            rules.strays(STORE, (), EU)


if __name__ == "__main__":
    unittest.main()
