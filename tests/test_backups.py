"""BACKUPS: points 48 and 49."""

import random
import unittest

from tenanthall.backups import backup_of, backup_struck, restored
from tenanthall.errors import NoHall
from tenanthall.jobs import done_job
from tenanthall.kinds import is_store
from tenanthall.rules import due_rows
from tests.model import some_store
from tests.samples import STORE, bent, kept_whole, refusal

EU, US = "eu", "us"
ANN, BOB, CY = (0, EU, 0, (1,)), (2, US, 3, (2,)), (4, EU, 5, ())
NOW = (("dept", 7, ((3, EU, 1, ()),), (0,)), ("emp", 5, (ANN, BOB, CY), (0, 2)), ("void", 2, (), (1,)))
SAVED = (("emp", 9, ((0, EU, 0, (8,)), BOB, (8, US, 4, ())), (1,)), ("team", 3, ((1, EU, 0, ()),), ()), ("void", 6, (), ()))


def brought_back(store=NOW, saved=SAVED, tick=6, land=EU, rules=()):
    return restored(store, (4, saved), tick=tick, land=land, rules=rules)


class Backups(unittest.TestCase):

    def test_told(self):
        for store in ((), STORE):
            self.assertEqual(kept_whole(self, lambda store: backup_of(store, tick=7), store), (7, store))
        self.assertEqual(backup_of(tick=0, store=STORE), (0, STORE))
        with self.assertRaises(TypeError):
            backup_of(STORE, 7)

    def test_struck(self):
        rules = (("kept", US, 3), ("struck", EU, 4), ("struck", US, 2))
        for tick, gone in ((4, (ANN,)), (5, (ANN,)), (6, (ANN, BOB)), (9, (ANN, BOB, CY)), (3, ())):
            told = kept_whole(self, lambda backup: backup_struck(backup, tick=tick, rules=rules), (2, NOW))
            rows = tuple(row for row in NOW[1][2] if row not in gone)
            dept = NOW[0][2] if tick < 5 else ()
            self.assertEqual(told, (2, (NOW[0][:2] + (dept, (0,)), ("emp", 5, rows, (0, 2)), NOW[2])), tick)
        self.assertEqual(backup_struck(rules=(), tick=9, backup=(2, NOW)), (2, NOW))
        self.assertEqual(backup_struck((2, NOW), tick=99), (2, NOW))

    def test_struck_at_its_own_tick(self):
        self.assertEqual(backup_struck((6, NOW), tick=6, rules=(("struck", US, 3),))[1][1][2], (ANN, CY))


class Restored(unittest.TestCase):

    def test_told(self):
        told = kept_whole(self, brought_back, NOW, SAVED)
        self.assertEqual(told, (("dept", 7, (), ()), SAVED[0], SAVED[1], SAVED[2]))
        self.assertEqual(restored(rules=(), land=EU, tick=6, backup=(4, SAVED), store=NOW), told)
        self.assertEqual(restored(NOW, (4, SAVED), tick=6, land=EU), told)
        with self.assertRaises(TypeError):
            restored(NOW, (4, SAVED), 6, EU)

    def test_the_greater_next_of_either(self):
        for ours, theirs in ((5, 9), (9, 5), (7, 7)):
            told = brought_back((("emp", ours, (), (4,)),), (("emp", theirs, (ANN,), (1,)),))
            self.assertEqual(told, (("emp", max(ours, theirs), (ANN,), (1,)),))

    def test_tables_of_one_alone(self):
        self.assertEqual(brought_back(NOW, ()), (("dept", 7, (), ()), ("emp", 5, (), ()), ("void", 2, (), ())))
        self.assertEqual(brought_back((), SAVED), SAVED)
        self.assertEqual(brought_back((), ()), ())
        self.assertEqual(brought_back((("aa", 1, (ANN,), ()), ("zz", 2, (), (3,))), (("mm", 4, (), (5,)),)),
                         (("aa", 1, (), ()), ("mm", 4, (), (5,)), ("zz", 2, (), ())))

    def test_twice_is_as_once(self):
        chance = random.Random(49)
        for _ in range(200):
            store, saved = some_store(chance), some_store(chance, tables=("dept", "emp", "eve"))
            once = brought_back(store, saved)
            self.assertEqual(brought_back(once, saved), once)
            self.assertTrue(is_store(once))
            nexts = {entry[0]: entry[1] for entry in store}
            for table in ("dept", "emp", "eve"):
                told = done_job(once, ("put", table, EU, ()), tick=9, land=EU)[1]
                self.assertGreaterEqual(told, nexts.get(table, 0))


class Refused(unittest.TestCase):

    def refused(self, **more):
        fields = refusal(self, NoHall, brought_back, **more)
        return fields["word"], fields["at"]

    def test_kept_rows_that_the_backup_has_just_so_or_not(self):
        # Otherwise, just so, not at all; and a table that it hasn't.
        rules = (("kept", EU, 9), ("kept", US, 9))
        self.assertEqual(self.refused(rules=rules), ("kept", (("dept", 3), ("emp", 0), ("emp", 4))))
        self.assertEqual(brought_back(rules=rules[1:]), brought_back())
        self.assertEqual(self.refused(rules=rules, saved=()), ("kept", (("dept", 3), ("emp", 0), ("emp", 2), ("emp", 4))))
        self.assertEqual(brought_back(saved=NOW, rules=rules), NOW)

    def test_just_so(self):
        rules = (("kept", US, 9),)
        for wrong in ((2, EU, 3, (2,)), (2, US, 2, (2,)), (2, US, 3, (3,)), (2, US, 3, (None,)), (2, US, 3, ()), (1, US, 3, (2,))):
            self.assertEqual(self.refused(saved=bent(NOW, (1, 2), (wrong,)), rules=rules), ("kept", (("emp", 2),)))
        self.assertEqual(self.refused(saved=(("dept", 5, (BOB,), ()),), rules=rules), ("kept", (("emp", 2),)))

    def test_one_tick_ahead_of_its_end_and_at_it(self):
        # Born at 5, kept for 3 ticks: to 7, not at 8.
        store = (("emp", 5, (CY,), ()),)
        for tick in (5, 7):
            self.assertEqual(self.refused(store=store, tick=tick, rules=(("kept", EU, 3),)), ("kept", (("emp", 4),)))
        self.assertEqual(brought_back(store=store, tick=8, rules=(("kept", EU, 3),)), SAVED)

    def test_rows_of_the_backup_that_stray(self):
        self.assertEqual(self.refused(rules=(("stay", US),)), ("stay", (("emp", 2), ("emp", 8))))
        self.assertEqual(self.refused(rules=(("stay", EU), ("stay", US)), land="zz"),
                         ("stay", (("emp", 0), ("emp", 2), ("emp", 8), ("team", 1))))
        self.assertEqual(brought_back(rules=(("stay", EU),)), brought_back())
        # Of the STORE as it is none are looked at.
        self.assertEqual(brought_back(saved=(), rules=(("stay", US),))[1], ("emp", 5, (), ()))

    def test_both_due_at_once(self):
        self.assertEqual(self.refused(rules=(("kept", EU, 3), ("stay", US))), ("kept", (("emp", 4),)))

    def test_kept_rows_are_never_due(self):
        rules = (("kept", EU, 9), ("struck", EU, 1))
        self.assertEqual(due_rows(NOW, rules=rules, tick=6), ())
        self.assertEqual(self.refused(rules=rules)[0], "kept")


if __name__ == "__main__":
    unittest.main()
