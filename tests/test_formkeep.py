"""A FORM KEEP: point 22, by points 20 and 21."""

import unittest

from tenanthall.errors import NoPaper, NoText
from tenanthall.formkeep import FormKeep
from tenanthall.forms import job_of
from tests.samples import JOBS, kept_whole, refusal


class Jobs(unittest.TestCase):

    def test_as_without_it(self):
        keep = FormKeep()
        for _ in range(2):
            for job, _, form, fills in JOBS:
                told = kept_whole(self, keep.job, form, fills)
                self.assertEqual(repr(told), repr(job))
                self.assertEqual(keep.job(fills=fills, form=form), job_of(form, fills))

    def test_one_form_filled_time_and_again(self):
        keep = FormKeep()
        for number in (0, 7, 10 ** 20):
            self.assertEqual(keep.job("get emp #", (number,)), ("get", "emp", number))
        self.assertEqual(keep.job("put emp eu ? ?", (1, None)), ("put", "emp", "eu", (1, None)))
        self.assertEqual(keep.job("put emp eu ? ?", (None, 2)), ("put", "emp", "eu", (None, 2)))
        self.assertEqual(keep.read(), 2)

    def test_refused_as_without_it(self):
        for form, fills in (("get emp", ()), ("", ()), ("get emp  #", (3,)), ("get emp # #", (3, 4)), ("x", None)):
            keep = FormKeep()
            for _ in range(2):
                self.assertEqual(refusal(self, NoText, keep.job, form, fills),
                                 refusal(self, NoText, job_of, form, fills))
        for form, fills in (("get emp #", None), ("get emp #", [3]), ("get emp #", ()), ("get emp #", (3, 4)),
                            ("get emp #", (True,)), ("set emp # 0 ?", (3, "bob")), ("add emp # 0 #", (3, None))):
            keep = FormKeep()
            for _ in range(2):
                self.assertEqual(refusal(self, NoPaper, keep.job, form, fills),
                                 refusal(self, NoPaper, job_of, form, fills))


class Keeping(unittest.TestCase):

    def told(self, keep):
        return keep.forms(), keep.read(), len(keep)

    def test_nothing_at_first(self):
        self.assertEqual(self.told(FormKeep()), ((), 0, 0))

    def test_what_reads_anew_and_what_doesnt(self):
        keep = FormKeep()
        keep.job("get emp #", (3,))
        self.assertEqual(self.told(keep), (("get emp #",), 1, 1))
        keep.job("get emp #", (4,))
        self.assertEqual(self.told(keep), (("get emp #",), 1, 1))
        keep.job("get dept #", (3,))
        self.assertEqual(self.told(keep), (("get dept #", "get emp #"), 2, 2))

    def test_refused_texts_each_time(self):
        keep = FormKeep()
        for many in (1, 2, 3):
            refusal(self, NoText, keep.job, "get emp", ())
            self.assertEqual(self.told(keep), ((), many, 0))
        refusal(self, NoText, keep.job, "get emp ", ())
        self.assertEqual(self.told(keep), ((), 4, 0))

    def test_a_form_is_kept_although_its_fills_were_refused(self):
        keep = FormKeep()
        for fills in (None, (), (True,), [3]):
            refusal(self, NoPaper, keep.job, "get emp #", fills)
            self.assertEqual(self.told(keep), (("get emp #",), 1, 1))
        self.assertEqual(keep.job("get emp #", (3,)), ("get", "emp", 3))
        self.assertEqual(self.told(keep), (("get emp #",), 1, 1))

    def test_forms_rise(self):
        keep = FormKeep()
        forms = ["sum emp 0", "count emp", "get emp #", "drop emp #", "count dept"]
        for form in forms:
            try:
                keep.job(form, ())
            except NoPaper:
                pass
        told = keep.forms()
        self.assertEqual(told, tuple(sorted(forms)))
        self.assertIsInstance(told, tuple)
        self.assertEqual(keep.read(), len(keep))

    def test_each_keep_has_its_own(self):
        one, other = FormKeep(), FormKeep()
        one.job("get emp #", (3,))
        self.assertEqual(self.told(other), ((), 0, 0))


if __name__ == "__main__":
    unittest.main()
