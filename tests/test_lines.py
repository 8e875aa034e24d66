"""Lines: point 88."""

import unittest

from tenanthall import lines
from tests.samples import JOBS, RULES, STORE, STORE_TEXT, kept_whole

VALUES = (
    (None, "-"),
    (0, "0"),
    (7, "7"),
    (-2, "-2"),
    (123456789012, "123456789012"),
    (-123456789012, "-123456789012"),
    (("link", "emp", 3), "@emp.3"),
    (("link", "dept", 0), "@dept.0"),
    (("said", ""), "'"),
    (("said", "bob"), "'bob"),
    (("said", " "), "'^_"),
    (("said", ","), "'^."),
    (("said", "^"), "'^^"),
    (("said", "^_"), "'^^_"),
    (("said", "^."), "'^^."),
    (("said", "^^ ,^ "), "'^^^^^_^.^^^_"),
    (("said", "-"), "'-"),
    (("said", "'@emp.3"), "''@emp.3"),
    (("said", "0=7"), "'0=7"),
)


class Lines(unittest.TestCase):

    def test_values(self):
        for value, text in VALUES:
            self.assertEqual(kept_whole(self, lines.shown_value, value), text)
            self.assertEqual(lines.shown_value(value=value), text)

    def test_jobs(self):
        for job, text, _, _ in JOBS:
            self.assertEqual(kept_whole(self, lines.shown_job, job), text)
            self.assertEqual(lines.shown_job(job=job), text)

    def test_each_value_in_a_job(self):
        for value, text in VALUES:
            self.assertEqual(lines.shown_job(("put", "emp", "eu", (value, 1))), f"put emp eu / {text} 1")
            self.assertEqual(lines.shown_job(("set", "emp", 3, 1, value)), f"set emp 3 1 {text}")
            conds = ((0, "=", value), (10, "<", value), (2, ">", 1))
            self.assertEqual(lines.shown_job(("count", "emp", conds)), f"count emp 0={text},10<{text},2>1")

    def test_rules(self):
        for rule, text in RULES:
            self.assertEqual(kept_whole(self, lines.shown_rule, rule), text)
            self.assertEqual(lines.shown_rule(rule=rule), text)

    def test_shares(self):
        for share, text in ((((0, 1), 1), "0 1 1"), (((1, 2), 4), "1 2 4"), (((17, 5), 10 ** 6), "17 5 1000000")):
            self.assertEqual(kept_whole(self, lines.shown_share, share), text)
            self.assertEqual(lines.shown_share(share=share), text)

    def test_stores(self):
        self.assertEqual(kept_whole(self, lines.shown_store, STORE), STORE_TEXT)
        self.assertEqual(lines.shown_store(store=STORE), STORE_TEXT)
        self.assertEqual(lines.shown_store(()), "")
        self.assertEqual(lines.shown_store((("emp", 5, (), ()),)), "table emp 5 -")
        self.assertEqual(lines.shown_store((("emp", 5, ((3, "eu", 5, (7,)),), (0, 2)),)),
                         "table emp 5 0,2\n3 eu 5 / 7")


if __name__ == "__main__":
    unittest.main()
