"""FORMS and FILLS: points 20 and 21, by the words of point 89."""

import unittest

from tenanthall.errors import NoPaper, NoText
from tenanthall.forms import form_of, job_of
from tenanthall.kinds import is_job
from tests.samples import JOBS, LINK, SAID, kept_whole, refusal

BIG = "123456789012"


class Forms(unittest.TestCase):

    def test_there(self):
        for job, _, form, fills in JOBS:
            told = kept_whole(self, form_of, job)
            self.assertEqual(told, (form, fills))
            self.assertIsInstance(told, tuple)
            self.assertIsInstance(told[1], tuple)
            self.assertEqual(form_of(job=job), told)

    def test_back(self):
        for job, _, form, fills in JOBS:
            told = kept_whole(self, job_of, form, fills)
            self.assertEqual(repr(told), repr(job))
            self.assertEqual(job_of(fills=fills, form=form), job)
            self.assertTrue(is_job(told))

    def test_one_form_just_where_unlike_in_fills_alone(self):
        self.assertEqual(form_of(("get", "emp", 3))[0], form_of(("get", "emp", 4))[0])
        unlike = [("get", "emp", 3), ("get", "dept", 3), ("drop", "emp", 3), ("follow", "emp", 3, 0),
                  ("follow", "emp", 3, 1), ("put", "emp", "eu", ()), ("put", "emp", "us", ()),
                  ("put", "emp", "eu", (1,)), ("count", "emp", ()), ("count", "emp", ((0, "=", 1),)),
                  ("count", "emp", ((0, "<", 1),)), ("count", "emp", ((1, "=", 1),)),
                  ("count", "emp", ((0, "=", 1), (0, "=", 1)))]
        self.assertEqual(len({form_of(job)[0] for job in unlike}), len(unlike))

    def test_numbers_by_figures(self):
        self.assertEqual(job_of(f"index emp {BIG}", ()), ("index", "emp", int(BIG)))
        self.assertEqual(job_of(f"count emp {BIG}=?", (1,)), ("count", "emp", ((int(BIG), "=", 1),)))
        self.assertEqual(job_of("follow emp # 10", (0,)), ("follow", "emp", 0, 10))
        self.assertEqual(form_of(("index", "emp", int(BIG))), (f"index emp {BIG}", ()))

    def test_each_value_is_a_fill(self):
        for value in (None, 0, -7, SAID, LINK, ("said", "")):
            self.assertEqual(job_of("set emp # 0 ?", (1, value)), ("set", "emp", 1, 0, value))
            self.assertEqual(job_of("put emp eu ?", (value,)), ("put", "emp", "eu", (value,)))
            self.assertEqual(job_of("count emp 0>?", (value,)), ("count", "emp", ((0, ">", value),)))


class Refused(unittest.TestCase):

    def test_texts(self):
        for form, word in (
                ("", 0), (" ", 0), ("  ", 0), ("?", 0), ("Get emp #", 0), ("gets emp #", 0), (" get emp #", 0),
                ("get\nemp #", 0), ("import emp #", 0), ("stay eu", 0), ("/ emp #", 0),
                ("get", 1), ("get ", 1), ("get  emp #", 1), ("get Emp #", 1), ("get abcdefghi #", 1), ("get # #", 1),
                ("get emp", 2), ("get emp ", 2), ("get emp  #", 2), ("get emp ?", 2), ("get emp 3", 2),
                ("get emp ##", 2), ("get emp #\n", 2), ("get emp # ", 3), ("get emp # #", 3), ("get emp #  ", 3),
                ("put", 1), ("put emp", 2), ("put emp #", 2), ("put emp 7 ?", 2), ("put emp eu #", 3),
                ("put emp eu /", 3), ("put emp eu ? / ?", 4), ("put emp eu ? ", 4), ("put emp eu ? ? x ?", 5),
                ("set emp #", 3), ("set emp # 1", 4), ("set emp # 1 #", 4), ("set emp # # ?", 3), ("set emp # ? ?", 3),
                ("set emp # 01 ?", 3), ("set emp # 00 ?", 3), ("set emp # -1 ?", 3), ("set emp # -0 ?", 3),
                ("set emp # 1234567890123 ?", 3), ("set emp # 1 ? ?", 5), ("set emp ? 1 ?", 2),
                ("add emp # 0", 4), ("add emp # 0 ?", 4), ("add emp # 0 # #", 5),
                ("drop emp", 2), ("drop emp # 0", 3), ("index emp", 2), ("index emp #", 2), ("index emp 0 #", 3),
                ("rows emp", 2), ("rows emp 0=?", 3), ("rows emp -", 2), ("rows emp - #", 2), ("rows emp # 0=?", 3),
                ("rows emp 0=?,1<? #", 2), ("rows emp 0=? x #", 3), ("rows emp 0=? ? #", 3), ("rows emp # #", 3),
                ("rows emp 0=? ", 3), ("rows emp 0=7 #", 2), ("rows emp 0=# #", 2), ("rows emp 0? #", 2), ("rows emp 10? #", 2), ("rows emp 0!? #", 2),
                ("rows emp =? #", 2), ("rows emp 0== #", 2), ("rows emp 0=?? #", 2), ("rows emp 0<=? #", 2),
                ("rows emp 00=? #", 2), ("rows emp 01=? #", 2), ("rows emp 1234567890123=? #", 2),
                ("rows emp -1=? #", 2), ("rows emp #=? #", 2),
                ("count", 1), ("count emp #", 2), ("count emp -", 2), ("count emp 0=? 1", 3),
                ("sum emp", 2), ("sum emp #", 2), ("sum emp 0=?", 2), ("sum emp 0 #", 3), ("sum emp 0 0=? 1=", 4),
                ("follow emp #", 3), ("follow emp # #", 3), ("follow emp 3 2", 2), ("follow emp # 2 ", 4)):
            told = refusal(self, NoText, job_of, form, ())
            self.assertEqual(told, {"line": 0, "word": word}, form)
            self.assertEqual(refusal(self, NoText, job_of, form=form, fills=None), told)

    def fills_refused(self, form, fills):
        fields = refusal(self, NoPaper, job_of, form, fills)
        return fields["word"], fields["at"]

    def test_fills_of_no_shape(self):
        for fills in (None, True, 3, "", "#", [], [3], ["x"]):
            self.assertEqual(self.fills_refused("get emp #", fills), ("shape", -1), fills)
        self.assertEqual(self.fills_refused("count emp", []), ("shape", -1))

    def test_too_many_fills_or_too_few(self):
        for form, fills in (("get emp #", ()), ("get emp #", (3, 4)), ("count emp", (1,)), ("index emp 0", (0,)),
                            ("put emp eu ? ?", (1,)), ("put emp eu", (None,)), ("rows emp 0=? 1<? #", (1, 2)),
                            ("set emp # 0 ?", (True,)), ("get emp #", ("a", "b"))):
            self.assertEqual(self.fills_refused(form, fills), ("many", -1), form)

    def test_fills_of_no_kind(self):
        no_numbers = (True, -1, None, "3", (3,), [3], SAID)
        no_values = (True, "bob", (), [1], ("said",), ("said", "thirteen sign"), ("link", "emp", -1), ["said", "a"])
        for fill in no_numbers:
            for form in ("get emp #", "drop emp #", "follow emp # 0", "rows emp #"):
                self.assertEqual(self.fills_refused(form, (fill,)), ("fill", 0), fill)
            self.assertEqual(self.fills_refused("set emp # 0 ?", (fill, None)), ("fill", 0))
            self.assertEqual(self.fills_refused("add emp # 0 #", (fill, 1)), ("fill", 0))
            self.assertEqual(self.fills_refused("rows emp 0=? #", (1, fill)), ("fill", 1))
        for fill in (True, None, "3", (3,), [3], SAID):
            self.assertEqual(self.fills_refused("add emp # 0 #", (1, fill)), ("fill", 1))
        for fill in no_values:
            self.assertEqual(self.fills_refused("set emp # 0 ?", (1, fill)), ("fill", 1), fill)
            self.assertEqual(self.fills_refused("put emp eu ? ? ?", (None, 1, fill)), ("fill", 2))
            self.assertEqual(self.fills_refused("sum emp 0 0=? 1=?", (1, fill)), ("fill", 1))

    def test_the_first_that_is_due(self):
        self.assertEqual(refusal(self, NoText, job_of, "get emp", [True])["word"], 2)
        self.assertEqual(self.fills_refused("put emp eu ? ?", ["x"]), ("shape", -1))
        self.assertEqual(self.fills_refused("put emp eu ? ?", ("x",)), ("many", -1))
        self.assertEqual(self.fills_refused("put emp eu ? ? ?", (1, "x", True)), ("fill", 1))


if __name__ == "__main__":
    unittest.main()
