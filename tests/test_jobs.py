"""JOBS DONE: points 4, 13 and 14."""

import random
import unittest

from tenanthall.jobs import done_job
from tenanthall.kinds import is_store
from tests.model import ask_told, job_done, some_ask, some_job, some_store
from tests.samples import SAID, kept_whole

EU, US = "eu", "us"
LINK = ("link", "dept", 1)
OWN = ("link", "emp", 5)
DEPT = ("dept", 3, ((1, US, 0, (40, SAID)), (2, EU, 3, ())), (0,))
# Of emp the ids 0, 3 and 4 were dropped.
EMP = ("emp", 8, ((1, EU, 2, (7, SAID, LINK)), (2, US, 2, (-9, 4, None)), (5, EU, 3, (7, 5, OWN, ("link", "emp", 3))),
                  (6, EU, 4, ()), (7, US, 4, (12, ("link", "void", 0), ("link", "zz", 0)))), (0, 2))
VOID = ("void", 2, (), ())
STORE = (DEPT, EMP, VOID)
TICK = 6


def done(job, store=STORE, tick=TICK, land=EU, rules=()):
    return done_job(store, job, tick=tick, land=land, rules=rules)


class Case(unittest.TestCase):

    def done(self, *job, **more):
        """(STORE, told), what is handed in staying as it is."""
        told = kept_whole(self, lambda job, store: done(job, store, **more), job, more.pop("store", STORE))
        self.assertIsInstance(told, tuple)
        self.assertTrue(is_store(told[0]))
        return told

    def told(self, *job, **more):
        """What a JOB tells that leaves the STORE."""
        store = more.get("store", STORE)
        newer, told = self.done(*job, **more)
        self.assertEqual(newer, store)
        return told

    def refused(self, word, *job, **more):
        self.assertEqual(self.told(*job, **more), ("no", word), job)

    def rows_of(self, store, table):
        return next(entry[2] for entry in store if entry[0] == table)


class Put(Case):

    def test_told(self):
        worths = (7, None, SAID, LINK)
        newer, told = self.done("put", "emp", US, worths)
        self.assertEqual(told, 8)
        self.assertEqual(newer, (DEPT, ("emp", 9, EMP[2] + ((8, US, TICK, worths),), (0, 2)), VOID))
        self.assertEqual(done_job(rules=(), land=EU, tick=TICK, job=("put", "emp", US, worths), store=STORE), (newer, told))

    def test_without_worths_and_into_a_void_table(self):
        self.assertEqual(self.done("put", "void", EU, ()), ((DEPT, EMP, ("void", 3, ((2, EU, TICK, ()),), ())), 2))

    def test_a_table_that_is_not_there(self):
        for table, at in (("aa", 0), ("eve", 2), ("zz", 3)):
            newer, told = self.done("put", table, EU, (1,))
            self.assertEqual(newer, STORE[:at] + ((table, 1, ((0, EU, TICK, (1,)),), ()),) + STORE[at:])
            self.assertEqual(told, 0)
        self.assertEqual(self.done("put", "emp", EU, (), store=()), ((("emp", 1, ((0, EU, TICK, ()),), ()),), 0))

    def test_stay(self):
        rules = (("kept", EU, 9), ("stay", US), ("struck", EU, 1))
        for table in ("emp", "zz"):
            self.refused("stay", "put", table, US, (1,), rules=rules)
        self.refused("stay", "put", "emp", EU, (1,), rules=(("stay", EU),), land=US)

    def test_stay_of_the_own_land(self):
        self.assertEqual(self.done("put", "emp", US, (), rules=(("stay", US),), land=US)[1], 8)
        self.assertEqual(self.done("put", "emp", US, (), rules=(("stay", EU), ("stay", "zz")))[1], 8)
        self.assertEqual(self.done("put", "emp", US, (), rules=(("kept", US, 9), ("struck", US, 1), ("told", US)))[1], 8)
        self.assertEqual(done_job(STORE, ("put", "emp", US, ()), tick=TICK, land=EU)[1], 8)

    def test_ids_that_were_dropped_never_come_again(self):
        store = self.done("drop", "emp", 7)[0]
        self.assertEqual(self.done("put", "emp", EU, (), store=store)[1], 8)
        for number in (1, 2, 5, 6):
            store = done(("drop", "emp", number), store)[0]
        self.assertEqual(self.rows_of(store, "emp"), ())
        self.assertEqual(self.done("put", "emp", EU, (), store=store)[1], 8)


class Set(Case):

    def test_told(self):
        for value in (0, -7, None, SAID, LINK):
            newer, told = self.done("set", "emp", 5, 1, value)
            self.assertEqual((told.__class__, told), (value.__class__, value))
            rows = EMP[2][:2] + ((5, EU, 3, (7, value) + EMP[2][2][3][2:]),) + EMP[2][3:]
            self.assertEqual(newer, (DEPT, ("emp", 8, rows, (0, 2)), VOID))

    def test_first_and_last_worth(self):
        self.assertEqual(self.rows_of(self.done("set", "emp", 1, 0, 1)[0], "emp")[0], (1, EU, 2, (1, SAID, LINK)))
        self.assertEqual(self.rows_of(self.done("set", "emp", 1, 2, 1)[0], "emp")[0], (1, EU, 2, (7, SAID, 1)))

    def test_refused(self):
        self.refused("table", "set", "zz", 1, 0, 1)
        for number in (0, 3, 8, 10 ** 90):
            self.refused("row", "set", "emp", number, 0, 1)
        self.refused("row", "set", "void", 0, 0, 1)
        self.refused("worth", "set", "emp", 1, 3, 1)
        self.refused("worth", "set", "emp", 6, 0, 1)

    def test_kept(self):
        self.refused("kept", "set", "emp", 1, 0, 1, rules=(("kept", EU, 5),))
        self.assertEqual(self.done("set", "emp", 1, 0, 1, rules=(("kept", US, 5),))[1], 1)


class Add(Case):

    def test_told(self):
        for number, k, more, told in ((5, 0, 3, 10), (5, 0, -30, -23), (2, 0, -1, -10), (2, 0, 9, 0), (2, 1, 0, 4)):
            newer, answer = self.done("add", "emp", number, k, more)
            self.assertEqual(answer, told)
            ahead = {row[0]: row for row in EMP[2]}
            behind = {row[0]: row for row in self.rows_of(newer, "emp")}
            row = ahead[number]
            ahead[number] = row[:3] + (row[3][:k] + (told,) + row[3][k + 1:],)
            self.assertEqual(behind, ahead)

    def test_refused(self):
        self.refused("table", "add", "zz", 1, 0, 1)
        self.refused("row", "add", "emp", 3, 0, 1)
        # No such worth; a SAID, a LINK, None.
        for number, k in ((1, 3), (6, 0), (1, 1), (1, 2), (2, 2)):
            self.refused("worth", "add", "emp", number, k, 1)
        self.refused("kept", "add", "emp", 1, 0, 1, rules=(("kept", EU, 5),))


class Drop(Case):

    def test_told(self):
        newer, told = self.done("drop", "emp", 5)
        self.assertIs(told, True)
        self.assertEqual(newer, (DEPT, ("emp", 8, EMP[2][:2] + EMP[2][3:], (0, 2)), VOID))

    def test_the_last_row_leaves_its_table(self):
        store = (("emp", 4, ((2, EU, 0, ()),), (1,)),)
        self.assertEqual(self.done("drop", "emp", 2, store=store), ((("emp", 4, (), (1,)),), True))

    def test_refused(self):
        self.refused("table", "drop", "zz", 1)
        self.refused("row", "drop", "emp", 3)
        self.refused("kept", "drop", "emp", 6, rules=(("kept", EU, 3),))


class Kept(Case):

    def test_one_tick_ahead_of_its_end_and_at_it(self):
        # Born at 2, kept for 5 ticks: to 6, not at 7.
        rules = (("kept", EU, 5), ("stay", US), ("struck", EU, 1))
        for job, told in ((("set", "emp", 1, 0, 1), 1), (("add", "emp", 1, 0, 1), 8), (("drop", "emp", 1), True)):
            for tick in (2, 6):
                self.refused("kept", *job, rules=rules, tick=tick)
            for tick in (7, 8):
                self.assertEqual(self.done(*job, rules=rules, tick=tick)[1], told)

    def test_by_the_land_of_the_row(self):
        rules = (("kept", EU, 5),)
        self.assertEqual(self.done("drop", "emp", 2, rules=rules, land=EU)[1], True)
        self.refused("kept", "drop", "emp", 1, rules=rules, land=US)

    def test_a_row_of_this_tick(self):
        self.refused("kept", "drop", "emp", 1, rules=(("kept", EU, 1),), tick=2)
        self.assertEqual(self.done("drop", "emp", 1, rules=(("kept", EU, 1),), tick=3)[1], True)

    def test_puts_indexes_and_asks_are_never_kept(self):
        rules = (("kept", EU, 99),)
        self.assertEqual(self.done("put", "emp", EU, (), rules=rules)[1], 8)
        self.assertIs(self.done("index", "emp", 1, rules=rules)[1], True)
        self.assertEqual(self.told("get", "emp", 1, rules=rules), EMP[2][0][3])
        self.assertEqual(self.told("follow", "emp", 1, 2, rules=rules), (40, SAID))


class Index(Case):

    def test_told(self):
        for k, indexes in ((0, (0, 2)), (1, (0, 1, 2)), (2, (0, 2)), (9, (0, 2, 9)), (64, (0, 2, 64))):
            newer, told = self.done("index", "emp", k)
            self.assertIs(told, True)
            self.assertEqual(newer, (DEPT, EMP[:3] + (indexes,), VOID))

    def test_a_table_that_is_not_there(self):
        self.assertEqual(self.done("index", "eve", 3), ((DEPT, EMP, ("eve", 0, (), (3,)), VOID), True))
        self.assertEqual(self.done("index", "eve", 0, store=()), ((("eve", 0, (), (0,)),), True))
        self.assertEqual(done(("put", "eve", EU, ()), self.done("index", "eve", 3)[0])[1], 0)


class Get(Case):

    def test_told(self):
        self.assertEqual(self.told("get", "emp", 1), (7, SAID, LINK))
        self.assertEqual(self.told("get", "emp", 6), ())
        self.refused("table", "get", "zz", 1)
        self.refused("row", "get", "emp", 3)
        self.refused("row", "get", "void", 0)


class Looks(Case):

    def test_rows(self):
        for conds, ids in (((), (1, 2, 5, 6, 7)), (((0, "=", 7),), (1, 5)), (((0, ">", -10), (0, "<", 12)), (1, 2, 5)),
                           (((2, "=", None),), (2,)), (((3, "=", None),), ()), (((1, "=", SAID),), (1,)),
                           (((0, "=", 7), (2, "=", OWN)), (5,))):
            for most in (0, 1, 2, 4, 5, 6, 10 ** 90):
                self.assertEqual(self.told("rows", "emp", conds, most), ids[:min(most, 9)])
        self.assertEqual(self.told("rows", "void", (), 5), ())
        self.refused("table", "rows", "zz", (), 5)

    def test_count(self):
        for conds, many in (((), 5), (((0, "=", 7),), 2), (((0, ">", 7),), 1), (((9, "=", 7),), 0)):
            self.assertEqual(self.told("count", "emp", conds), many)
        self.assertEqual(self.told("count", "void", ()), 0)
        self.refused("table", "count", "zz", ())

    def test_sum(self):
        for k, conds, total in ((0, (), 17), (0, ((0, "=", 7),), 14), (0, ((0, "<", 0),), -9), (1, (), 9), (3, (), 0),
                                (99, (), 0), (0, ((0, ">", 99),), 0)):
            self.assertEqual(self.told("sum", "emp", k, conds), total)
        # Worths that are no NUMBERS are none: SAIDS, LINKS, None.
        self.assertEqual(self.told("sum", "emp", 2, ()), 0)
        self.assertEqual(self.told("sum", "void", 0, ()), 0)
        self.refused("table", "sum", "zz", 0, ())

    def test_indexes_turn_nothing_told(self):
        plain = tuple(entry[:3] + ((),) for entry in STORE)
        for ask in (("rows", "emp", ((0, "=", 7), (2, "=", OWN)), 9), ("count", "emp", ((2, "=", None),)),
                    ("sum", "emp", 0, ((0, "=", 7),))):
            self.assertEqual(self.told(*ask), self.told(*ask, store=plain))


class Follow(Case):

    def test_told(self):
        self.assertEqual(self.told("follow", "emp", 1, 2), (40, SAID))
        # To its own ROW.
        self.assertEqual(self.told("follow", "emp", 5, 2), EMP[2][2][3])

    def test_refused(self):
        self.refused("table", "follow", "zz", 1, 2)
        self.refused("row", "follow", "emp", 3, 2)
        for k in (0, 1, 3, 99):
            self.refused("worth", "follow", "emp", 1, k)
        self.refused("worth", "follow", "emp", 2, 2)
        # To a dropped ROW, of a table without ROWS, of one that isn't there.
        self.refused("link", "follow", "emp", 5, 3)
        self.refused("link", "follow", "emp", 7, 1)
        self.refused("link", "follow", "emp", 7, 2)


class First(Case):
    """Which refusal goes first where two are due at once."""
    rules = (("kept", EU, 99), ("kept", US, 99), ("stay", EU), ("stay", US))

    def test_first(self):
        for word, job in (("table", ("set", "zz", 0, 9, 1)), ("table", ("follow", "zz", 0, 9)), ("row", ("set", "emp", 3, 9, 1)),
                          ("row", ("add", "emp", 3, 9, 1)), ("row", ("drop", "emp", 3)), ("row", ("follow", "emp", 3, 9)),
                          ("worth", ("set", "emp", 1, 3, 1)), ("worth", ("add", "emp", 1, 1, 1)),
                          ("kept", ("set", "emp", 1, 0, 1)), ("kept", ("add", "emp", 1, 0, 1)), ("kept", ("drop", "emp", 1)),
                          ("worth", ("follow", "emp", 7, 0)), ("link", ("follow", "emp", 7, 1)),
                          ("stay", ("put", "zz", US, ())), ("stay", ("put", "emp", US, ()))):
            self.refused(word, *job, rules=self.rules)

    def test_rules_left_out(self):
        self.assertIs(done_job(STORE, ("drop", "emp", 1), tick=2, land=EU)[1], True)
        with self.assertRaises(TypeError):
            done_job(STORE, ("drop", "emp", 1), 2, EU)


class Any(Case):

    def test_as_a_plain_model_tells(self):
        chance = random.Random(4)
        words = {}
        for _ in range(150):
            rules = chance.choice(((), (("kept", EU, 2),), (("stay", US),), (("kept", US, 3), ("stay", EU), ("struck", EU, 1))))
            store = some_store(chance, deeds=12)
            for tick in sorted(chance.randrange(8) for _ in range(30)):
                job, land = some_job(chance, tables=("dept", "emp", "eve")), chance.choice((EU, US))
                told = done(job, store, tick, land, rules)
                self.assertEqual(repr(told), repr(job_done(store, job, tick=tick, land=land, rules=rules)), job)
                refused = told[1].__class__ is tuple and told[1][:1] == ("no",)
                if refused or job[0] in ("get", "rows", "count", "sum", "follow"):
                    self.assertEqual(told[0], store)
                others = [entry for entry in store if entry[0] != job[1]]
                self.assertEqual([entry for entry in told[0] if entry[0] != job[1]], others)
                words[told[1][1] if refused else job[0]] = True
                store = told[0]
        self.assertEqual(sorted(words), sorted("""put set add drop index get rows count sum follow
            table row worth link stay kept""".split()))

    def test_an_id_never_comes_again(self):
        chance = random.Random(14)
        for _ in range(50):
            store, told = (), []
            for tick in range(40):
                job = some_job(chance, tables=("emp",))
                store, answer = done(job, store, tick)
                if job[0] == "put":
                    told.append(answer)
            self.assertEqual(told, list(range(len(told))))

    def renamed(self, thing, names):
        """A thing with other names for tables and LANDS."""
        if isinstance(thing, tuple):
            return tuple(self.renamed(part, names) for part in thing)
        return names.get(thing, thing) if isinstance(thing, str) else thing

    def later(self, store, more):
        return tuple((table, after, tuple((number, land, born + more, worths) for number, land, born, worths in rows), indexes)
                     for table, after, rows, indexes in store)

    def test_other_names_and_later_ticks_tell_the_same(self):
        chance = random.Random(41)
        names = {"dept": "works", "emp": "folk", EU: "mars", US: "luna"}
        rules = (("kept", EU, 3), ("stay", US))
        for _ in range(40):
            store = ()
            other = ()
            for tick in sorted(chance.randrange(6) for _ in range(25)):
                job = some_job(chance)
                store, told = done(job, store, tick, EU, rules)
                # In the order of their new names tables and LANDS are the other way round.
                other, other_told = done(self.renamed(job, names), other, tick + 7, "mars", self.renamed(rules, names))
                self.assertEqual(other_told, self.renamed(told, names))
            self.assertEqual(dict((entry[0], entry) for entry in other),
                             dict((entry[0], entry) for entry in self.later(self.renamed(store, names), 7)))

    def test_asks_of_any_store(self):
        chance = random.Random(13)
        for _ in range(600):
            store, ask = some_store(chance), some_ask(chance)
            self.assertEqual(repr(self.told(*ask, store=store)), repr(ask_told(store, ask)))


if __name__ == "__main__":
    unittest.main()
