"""Kinds: points 3 and 10."""

import unittest

from tenanthall import kinds
from tests.samples import JOBS, STORE, bent, kept_whole

DEED_WORDS = ("put", "set", "add", "drop", "index")

# Any things that are of none of the kinds of this module but those that are told apart by name.
STRANGE = (True, False, 1, -1, 10 ** 200, None, "", "emp", "a b", "%", (), [], [[]], ((),), [1], (True,),
           (None, None), ("said",), (["put"], "emp"), ("put",), ("get",), ("put", "emp"), ("rule", "eu"))

WHOLES = (0, 1, -1, 7, 10 ** 12, -10 ** 200)
WORDS = ("a", "emp", "abcdefgh", "zzzzzzzz")
NO_WORDS = ("", "abcdefghi", "Emp", "emp1", "e p", "emp\n", "e-p", "\u00e9", ("emp",), ["e"], None, 1, True)
SAIDS = ("", "a", "twelve signs", "~!^, 'A0@-.")
NO_SAIDS = ("thirteen sign", "a\nb", "\n", "50%", "a\tb", "\u00e9", None, 1, True, ("a",), ["a"])
VALUES = WHOLES + (None, ("link", "emp", 0), ("link", "emp", 10 ** 13)) + tuple(("said", text) for text in SAIDS)
NO_VALUES = (True, False, "", "bob", "said", (), ("said",), ("said", "a", "b"), ["said", "a"], ("Said", "a"),
             ("Link", "emp", 0), ("links", "emp", 0), ("said", "emp", 0), ("link", "a"), (None, "a"),
             ("link", "emp"), ("link", "emp", -1), ("link", "emp", True), ("link", "", 0), ("link", "emp", 0, 0),
             ["link", "emp", 0], ("link", 0, "emp"), ("link", "abcdefghi", 0), (1,), [], ("said", None)
             ) + tuple(("said", text) for text in NO_SAIDS)
NO_NUMBERS = (-1, True, False, None, "0", "", (0,), [0], ())
NO_TUPLES = (None, True, 0, "", "emp", [])

ROW = (3, "eu", 0, (7, None, ("said", "a"), ("link", "emp", 1)))
COND = (0, "=", 7)


class Check(unittest.TestCase):

    def holds(self, check, things):
        for thing in things:
            self.assertIs(kept_whole(self, check, thing), True, thing)

    def fails(self, check, things):
        for thing in things:
            self.assertIs(kept_whole(self, check, thing), False, thing)

    def bends(self, check, thing, path, others):
        self.holds(check, (thing,))
        self.fails(check, [bent(thing, path, other) for other in others])

    def lengths(self, check, thing):
        """The same, but shorter, longer, or a list, is of no such kind."""
        self.holds(check, (thing,))
        self.fails(check, (thing[:-1], thing[1:], thing + (0,), thing + (None,), list(thing), (thing,)))


class Plain(Check):

    def test_number(self):
        self.holds(kinds.is_number, (0, 1, 7, 10 ** 12, 10 ** 300))
        self.fails(kinds.is_number, NO_NUMBERS + ("1", "-1", ((),), [1], -10 ** 300))

    def test_whole(self):
        self.holds(kinds.is_whole, WHOLES)
        self.fails(kinds.is_whole, (True, False, None, "1", "", (), (1,), [1]))

    def test_word(self):
        self.holds(kinds.is_word, WORDS)
        self.fails(kinds.is_word, NO_WORDS)

    def test_value(self):
        self.holds(kinds.is_value, VALUES)
        self.fails(kinds.is_value, NO_VALUES)

    def test_every_sign_of_a_said(self):
        for number in range(0, 200):
            told = kinds.is_value(("said", chr(number)))
            self.assertIs(told, 32 <= number <= 126 and chr(number) != "%", number)

    def test_every_letter_of_a_word(self):
        for number in range(0, 400):
            self.assertIs(kinds.is_word(chr(number)), "a" <= chr(number) <= "z", number)


class Rows(Check):

    def test_row(self):
        self.holds(kinds.is_row, (ROW, (0, "a", 0, ()), (10 ** 13, "abcdefgh", 10 ** 13, VALUES)))
        self.lengths(kinds.is_row, ROW)
        self.fails(kinds.is_row, STRANGE)

    def test_row_bent(self):
        self.bends(kinds.is_row, ROW, (0,), NO_NUMBERS)
        self.bends(kinds.is_row, ROW, (1,), NO_WORDS)
        self.bends(kinds.is_row, ROW, (2,), NO_NUMBERS)
        self.bends(kinds.is_row, ROW, (3,), NO_TUPLES + ([7], "77", (True,)))
        for place in range(4):
            self.bends(kinds.is_row, ROW, (3, place), NO_VALUES)


class Stores(Check):

    def test_store(self):
        self.holds(kinds.is_store, ((), STORE, (("a", 0, (), ()),), (("a", 4, (ROW,), ()), ("b", 0, (), (0, 1, 9)))))
        self.fails(kinds.is_store, [thing for thing in STRANGE if thing != ()] + [list(STORE), STORE[0]])

    def test_store_bent(self):
        self.bends(kinds.is_store, STORE, (1, 0), NO_WORDS)
        self.bends(kinds.is_store, STORE, (1, 1), NO_NUMBERS)
        self.bends(kinds.is_store, STORE, (1, 2), NO_TUPLES + (list(STORE[1][2]), STORE[1][2] + (None,), ROW))
        self.bends(kinds.is_store, STORE, (1, 3), NO_TUPLES + ([0, 2], (True,), (-1,), ("0",), (None,)))
        self.bends(kinds.is_store, STORE, (1, 2, 1), STRANGE + (list(STORE[1][2][1]),))
        self.bends(kinds.is_store, STORE, (1, 2, 1, 3, 0), NO_VALUES)
        self.bends(kinds.is_store, STORE, (2,), STRANGE + (list(STORE[2]), STORE[2][:3], STORE[2] + ((),)))

    def test_tables_rise(self):
        self.fails(kinds.is_store, (STORE[::-1], STORE + STORE[2:], STORE[:1] + STORE))
        # Two entries of one table rise as tuples; they are one table twice all the same.
        self.fails(kinds.is_store, ((("a", 0, (), ()), ("a", 1, (), ())),))

    def test_ids_rise_below_next(self):
        low, high = (0, "eu", 0, ()), (1, "eu", 0, ())
        self.holds(kinds.is_store, ((("a", 2, (low, high), ()),), (("a", 9, (high,), ()),)))
        self.fails(kinds.is_store, [(("a", after, rows, ()),) for after, rows in (
            (1, (low, high)), (0, (low,)), (2, (high, low)), (2, (low, low)), (2, (low, (0, "us", 0, ()))))])

    def test_indexes_rise(self):
        self.holds(kinds.is_store, [(("a", 0, (), indexes),) for indexes in ((), (0,), (5,), (0, 1, 7))])
        self.fails(kinds.is_store, [(("a", 0, (), indexes),) for indexes in ((1, 0), (0, 0), (0, 2, 1), (0, True))])


class Conds(Check):

    def test_cond(self):
        self.holds(kinds.is_cond, [(k, sign, value) for k in (0, 9) for sign in "=<>" for value in VALUES])
        self.lengths(kinds.is_cond, COND)
        self.fails(kinds.is_cond, STRANGE)
        self.bends(kinds.is_cond, COND, (0,), NO_NUMBERS)
        self.bends(kinds.is_cond, COND, (1,), ("", "==", "<=", ">=", "!", None, True, 0, ["="], ("=",), "=<>"))
        self.bends(kinds.is_cond, COND, (2,), NO_VALUES)

    def test_conds(self):
        self.holds(kinds.are_conds, ((), (COND,), (COND, COND), (COND, (1, "<", None))))
        self.fails(kinds.are_conds, NO_TUPLES + (COND, [COND], (COND, None), (COND, list(COND)), ((),)))


class Jobs(Check):

    def test_each_job(self):
        for job, _, _, _ in JOBS:
            deed = job[0] in DEED_WORDS
            self.assertIs(kinds.is_deed(job), deed, job)
            self.assertIs(kinds.is_ask(job), not deed, job)
            self.assertIs(kinds.is_job(job), True, job)

    def test_any_other_thing(self):
        for check in (kinds.is_deed, kinds.is_ask, kinds.is_job):
            self.fails(check, STRANGE + (["get", "emp", 3], ("Get", "emp", 3), ("", "emp", 3), (None, "emp", 3)))
            self.fails(check, [(job,) for job, _, _, _ in JOBS] + [list(job) for job, _, _, _ in JOBS])

    def test_each_part_bent(self):
        wrong = {"table": NO_WORDS, "land": NO_WORDS, "number": NO_NUMBERS, "value": NO_VALUES,
                 "whole": (True, False, None, "1", (1,), [1]),
                 "worths": NO_TUPLES + ((True,), [7], (7, "a")), "conds": NO_TUPLES + (COND, [COND], ((0, "=", True),))}
        shapes = (
            (("put", "emp", "eu", (7,)), ("table", "land", "worths")),
            (("set", "emp", 3, 1, None), ("table", "number", "number", "value")),
            (("add", "emp", 3, 1, -4), ("table", "number", "number", "whole")),
            (("drop", "emp", 3), ("table", "number")),
            (("index", "emp", 3), ("table", "number")),
            (("get", "emp", 3), ("table", "number")),
            (("rows", "emp", (COND,), 5), ("table", "conds", "number")),
            (("count", "emp", (COND,)), ("table", "conds")),
            (("sum", "emp", 1, (COND,)), ("table", "number", "conds")),
            (("follow", "emp", 3, 1), ("table", "number", "number")),
        )
        for job, parts in shapes:
            check = kinds.is_deed if job[0] in DEED_WORDS else kinds.is_ask
            for place, part in enumerate(parts):
                for either in (check, kinds.is_job):
                    self.bends(either, job, (place + 1,), wrong[part])
            for either in (check, kinds.is_job):
                self.lengths(either, job)

    def test_checkers_look_at_no_bounds(self):
        rows = tuple((number, "eu", 0, (number,) * 6) for number in range(3000))
        self.holds(kinds.is_store, ((("emp", 10 ** 50, rows, ()),),))
        self.holds(kinds.is_job, (("put", "emp", "eu", (10 ** 300,) * 5000), ("get", "emp", 10 ** 300)))
        deep = ()
        for _ in range(20):
            deep = ([deep],)
        for check in (kinds.is_number, kinds.is_whole, kinds.is_word, kinds.is_value, kinds.is_row, kinds.is_store,
                      kinds.is_cond, kinds.are_conds, kinds.is_deed, kinds.is_ask, kinds.is_job):
            self.assertIs(check(deep), False)
            self.assertIs(check(thing=deep), False)


class Parts(unittest.TestCase):

    def test_rules(self):
        good = (("stay", "eu"), ("kept", "eu", 1), ("struck", "us", 10 ** 9), ("told", "abcdefgh"))
        for rule in good:
            self.assertIs(kinds.is_rule(rule), True)
            for wrong in (rule[:-1], rule + (1,), list(rule), (rule,), bent(rule, (0,), "rule"), bent(rule, (1,), "")):
                self.assertIs(kinds.is_rule(wrong), False, wrong)
        for ticks in (0, -1, True, None, "4"):
            self.assertIs(kinds.is_rule(("kept", "eu", ticks)), False)
            self.assertIs(kinds.is_rule(("struck", "eu", ticks)), False)


if __name__ == "__main__":
    unittest.main()
