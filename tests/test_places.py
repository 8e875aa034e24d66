"""PLACES: point 63, by the RULES of points 3, 4, 5 and 61 and the LOGS of point 37."""

import unittest

from tenanthall.kinds import is_store
from tenanthall.places import due_in, places_struck
from tests.samples import kept_whole

EU, US = "eu", "us"
RULES = (("kept", US, 6), ("struck", EU, 4), ("struck", US, 2))

# At tick 6: eu is DUE if born at 2 or ahead, us if born at 0.
STORE = (("dept", 2, ((1, US, 0, ()),), ()), ("emp", 9, ((0, EU, 0, (7,)), (2, EU, 3, ()), (5, US, 1, ())), (0,)))
COPY = (("dept", 2, (), ()), ("emp", 9, ((0, EU, 0, (6,)), (1, EU, 2, ())), ()))
LOG = (
    (1, ("put", "emp", EU, (1, 2)), 7),
    (2, ("set", "emp", 7, 0, ("link", "emp", 0)), ("link", "emp", 0)),
    (2, ("put", "emp", US, ()), 8),
    (2, ("index", "emp", 0), True),
    (3, ("put", "dept", EU, ()), 7),
    (3, ("set", "emp", 0, 0, 5), 5),
    (4, ("add", "emp", 2, 0, -1), 4),
    (4, ("add", "dept", 1, 0, 1), 1),
    (5, ("drop", "emp", 8), True),
    (5, ("drop", "emp", 1), True),
)


def due(places, tick=6, rules=RULES):
    return due_in(places, rules=rules, tick=tick)


def struck(places, tick=6, rules=RULES):
    return places_struck(places, rules=rules, tick=tick)


class Due(unittest.TestCase):

    def test_of_each_kind_of_place(self):
        for word in ("store", "copy", "backup"):
            told = kept_whole(self, due, ((word, STORE),))
            self.assertEqual(told, ((0, "dept", 1), (0, "emp", 0)))
            self.assertIsInstance(told, tuple)
        self.assertEqual(kept_whole(self, due, (("log", LOG),)), ((0, "emp", 7),))

    def test_the_number_of_the_pair(self):
        places = (("log", LOG), ("copy", COPY), ("store", ()), ("store", STORE), ("log", ()), ("log", LOG))
        self.assertEqual(due(places), ((0, "emp", 7), (1, "emp", 0), (1, "emp", 1), (3, "dept", 1), (3, "emp", 0),
                                       (5, "emp", 7)))

    def test_rising_though_a_log_isnt(self):
        log = ((0, ("put", "emp", EU, ()), 4), (0, ("put", "dept", EU, ()), 9), (0, ("put", "emp", EU, ()), 2),
               (1, ("put", "dept", EU, ()), 1))
        self.assertEqual(due((("log", log),)), ((0, "dept", 1), (0, "dept", 9), (0, "emp", 2), (0, "emp", 4)))

    def test_nothing_twice(self):
        log = ((0, ("put", "emp", EU, ()), 4), (1, ("put", "emp", EU, ()), 4))
        self.assertEqual(due((("log", log), ("log", log[:1]))), ((0, "emp", 4), (1, "emp", 4)))

    def test_a_put_is_born_at_its_tick(self):
        for born in range(7):
            log = ((born, ("put", "emp", EU, ()), 3),)
            self.assertEqual(due((("log", log),)), ((0, "emp", 3),) if born <= 2 else ())
            kept = ((born, ("put", "emp", US, ()), 3),)
            self.assertEqual(due((("log", kept),)), ((0, "emp", 3),) if born == 0 else ())

    def test_a_put_counts_whose_row_is_dropped_later(self):
        log = ((0, ("put", "emp", EU, ()), 3), (1, ("drop", "emp", 3), True))
        self.assertEqual(due((("log", log),)), ((0, "emp", 3),))
        self.assertEqual(struck((("log", log),)), (("log", ()),))

    def test_nothing(self):
        self.assertEqual(due(()), ())
        self.assertEqual(due((("store", ()), ("log", ()))), ())
        self.assertEqual(due((("store", STORE), ("log", LOG)), rules=()), ())
        self.assertEqual(due((("store", STORE), ("log", LOG)), tick=3), ())


class Struck(unittest.TestCase):

    def test_due_in_one_and_struck_in_all(self):
        places = (("store", STORE), ("copy", COPY), ("backup", STORE), ("log", LOG))
        store = (("dept", 2, (), ()), ("emp", 9, STORE[1][2][1:], (0,)))
        copy = (("dept", 2, (), ()), ("emp", 9, (), ()))
        told = kept_whole(self, struck, places)
        self.assertEqual(told, (("store", store), ("copy", copy), ("backup", store),
                                ("log", (LOG[2], LOG[3], LOG[4], LOG[6], LOG[8]))))
        self.assertIsInstance(told, tuple)
        self.assertTrue(all(is_store(thing) for word, thing in told if word != "log"))
        self.assertEqual(due(told), ())

    def test_a_log_alone(self):
        self.assertEqual(struck((("log", LOG),)), (("log", LOG[2:]),))

    def test_what_is_due_in_a_log_goes_in_all_logs(self):
        other = ((4, ("set", "emp", 7, 1, None), None), (4, ("set", "emp", 3, 1, None), None))
        self.assertEqual(struck((("log", other), ("log", LOG))), (("log", other[1:]), ("log", LOG[2:])))

    def test_what_is_due_in_a_store_behind_goes_in_a_log_ahead(self):
        told = struck((("log", LOG), ("backup", COPY)))
        self.assertEqual(told[0], ("log", LOG[2:5] + LOG[6:9]))

    def test_index_and_links_name_nothing(self):
        log = ((0, ("index", "emp", 0), True), (1, ("put", "dept", US, (("link", "emp", 0),)), 5),
               (1, ("set", "dept", 5, 0, ("link", "emp", 0)), ("link", "emp", 0)), (2, ("add", "dept", 0, 0, 0), 7))
        self.assertEqual(struck((("store", STORE), ("log", log)), rules=RULES[1:2])[1], ("log", log))

    def test_a_table_and_an_id_together(self):
        # emp 0 is DUE, so neither dept 0 nor emp 1 goes.
        log = ((1, ("set", "dept", 0, 0, 1), 1), (1, ("set", "emp", 1, 0, 1), 1), (1, ("set", "emp", 0, 0, 1), 1))
        self.assertEqual(struck((("store", STORE), ("log", log)), rules=RULES[1:2])[1], ("log", log[:2]))

    def test_a_put_of_a_spot_due_elsewhere_goes(self):
        # Its own ROW wouldn't be DUE yet.
        log = ((5, ("put", "emp", EU, ()), 0), (5, ("put", "emp", EU, ()), 4))
        self.assertEqual(struck((("store", STORE), ("log", log)))[1], ("log", log[1:]))

    def test_one_kind_twice(self):
        places = (("store", STORE), ("store", COPY), ("log", LOG), ("log", LOG[4:]))
        told = struck(places)
        self.assertEqual([word for word, _ in told], ["store", "store", "log", "log"])
        self.assertEqual(told[2:], (("log", (LOG[2], LOG[3], LOG[4], LOG[6], LOG[8])), ("log", (LOG[4], LOG[6], LOG[8]))))

    def test_nothing_due(self):
        places = (("store", STORE), ("log", LOG), ("copy", ()), ("log", ()))
        self.assertEqual(struck(places, rules=()), places)
        self.assertEqual(struck(places, tick=2), places)
        self.assertEqual(struck(()), ())

    def test_arguments(self):
        places = (("store", STORE), ("log", LOG))
        self.assertEqual(due_in(tick=6, rules=RULES, places=places), due(places))
        self.assertEqual(places_struck(tick=6, rules=RULES, places=places), struck(places))
        for call in (due_in, places_struck):
            with self.assertRaises(TypeError):
                call(places, RULES, 6)


if __name__ == "__main__":
    unittest.main()
