"""What is SHOWN, and BOOKS: point 62, by point 4."""

import unittest

from tenanthall.showing import book_with, shown_by
from tests.samples import kept_whole

EU, US = "eu", "us"
STORE = (
    ("dept", 3, ((0, EU, 0, (1,)), (2, US, 1, ())), ()),
    ("emp", 9, ((0, EU, 0, (7, ("link", "dept", 2))), (3, US, 2, (None, ("link", "emp", 3), ("link", "dept", 0))),
                (5, "zz", 4, ())), (0,)),
)
REFUSALS = tuple(("no", word) for word in ("table", "row", "worth", "link"))

# ASKS with their ANSWERS and what these SHOW.
SHOWN = (
    (("get", "emp", 0), (7, ("link", "dept", 2)), (("emp", 0),)),
    (("get", "emp", 5), (), (("emp", 5),)),
    (("rows", "emp", (), 2), (0, 3), (("emp", 0), ("emp", 3))),
    (("rows", "emp", ((0, "=", 7),), 9), (0,), (("emp", 0),)),
    (("rows", "emp", (), 0), (), ()),
    (("rows", "dept", (), 9), (0, 2), (("dept", 0), ("dept", 2))),
    (("count", "emp", ()), 3, ()),
    (("sum", "emp", 0, ()), 7, ()),
    (("follow", "emp", 0, 1), (), (("dept", 2),)),
    (("follow", "emp", 3, 1), (None, ("link", "emp", 3), ("link", "dept", 0)), (("emp", 3),)),
    (("follow", "emp", 3, 2), (1,), (("dept", 0),)),
)


class Shown(unittest.TestCase):

    def test_each_ask(self):
        for ask, answer, spots in SHOWN:
            told = kept_whole(self, shown_by, STORE, ask, answer)
            self.assertEqual(told, spots, ask)
            self.assertIsInstance(told, tuple)
            self.assertEqual(shown_by(answer=answer, ask=ask, store=STORE), spots)

    def test_refusals_show_nothing(self):
        for ask, _, _ in SHOWN:
            for refused in REFUSALS:
                self.assertEqual(shown_by(STORE, ask, refused), ())
        for refused in REFUSALS:
            self.assertEqual(shown_by(STORE, ("get", "emp", 4), refused), ())
            self.assertEqual(shown_by(STORE, ("follow", "void", 0, 7), refused), ())
            self.assertEqual(shown_by((), ("rows", "emp", (), 2), refused), ())

    def test_worths_that_look_like_a_refusal(self):
        store = (("emp", 1, ((0, EU, 0, (("said", "no"), ("said", "row"))),), ()),)
        self.assertEqual(shown_by(store, ("get", "emp", 0), store[0][2][0][3]), (("emp", 0),))


class Books(unittest.TestCase):

    def booked(self, ask, answer, rules, book=(), tick=7):
        return kept_whole(self, lambda *things: book_with(*things, rules=rules, tick=tick), book, STORE, ask, answer)

    def test_lands_with_a_rule_told_and_without(self):
        lands = {("emp", 0): EU, ("emp", 3): US, ("emp", 5): "zz", ("dept", 0): EU, ("dept", 2): US}
        for rules in ((), (("told", EU),), (("told", US),), (("told", EU), ("told", US)), (("told", "z"),)):
            for ask, answer, spots in SHOWN:
                told = self.booked(ask, answer, rules)
                self.assertEqual(told, tuple((7,) + spot for spot in spots if ("told", lands[spot]) in rules))
                self.assertIsInstance(told, tuple)

    def test_rules_of_other_words(self):
        rules = (("kept", EU, 4), ("stay", EU), ("struck", EU, 9), ("told", US))
        self.assertEqual(self.booked(("rows", "emp", (), 9), (0, 3, 5), rules), ((7, "emp", 3),))

    def test_the_land_of_the_row_shown_alone(self):
        # The ROW that is followed is of eu, the one that is shown of us.
        self.assertEqual(self.booked(("follow", "emp", 0, 1), (), (("told", EU),)), ())
        self.assertEqual(self.booked(("follow", "emp", 0, 1), (), (("told", US),)), ((7, "dept", 2),))

    def test_behind_what_is_there_also_where_it_is_in_the_book_already(self):
        book = ((7, "emp", 0), (3, "zz", 9))
        told = self.booked(("get", "emp", 0), (7, ("link", "dept", 2)), (("told", EU),), book=book)
        self.assertEqual(told, book + ((7, "emp", 0),))
        self.assertEqual(self.booked(("count", "emp", ()), 3, (("told", EU),), book=book), book)

    def test_in_the_order_told(self):
        rules = (("told", EU), ("told", US), ("told", "zz"))
        self.assertEqual(self.booked(("rows", "emp", (), 9), (0, 3, 5), rules, tick=0),
                         ((0, "emp", 0), (0, "emp", 3), (0, "emp", 5)))

    def test_refusals(self):
        for refused in REFUSALS:
            self.assertEqual(self.booked(("get", "emp", 0), refused, (("told", EU),), book=((1, "emp", 0),)),
                             ((1, "emp", 0),))

    def test_arguments(self):
        told = book_with(tick=7, rules=(("told", EU),), answer=(), ask=("get", "emp", 0), store=STORE, book=())
        self.assertEqual(told, ((7, "emp", 0),))
        with self.assertRaises(TypeError):
            book_with((), STORE, ("get", "emp", 0), (), (), 7)


if __name__ == "__main__":
    unittest.main()
