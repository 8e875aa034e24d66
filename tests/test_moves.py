"""MOVES: points 37 to 40."""

import random
import unittest

from tenanthall.errors import NoHall
from tenanthall.kinds import is_store
from tenanthall.moves import begun_move, broken_by, copied_on, is_left, logged, move_struck, store_there
from tenanthall.places import due_in
from tenanthall.rules import due_rows, store_struck
from tests.model import deed_done, some_deed, some_store
from tests.samples import kept_whole, refusal

EU, US = "eu", "us"
ROWS = tuple((number, EU, number, (number,)) for number in (0, 2, 3, 5))
DEPT = ("dept", 4, ((1, US, 0, ()), (3, EU, 2, (None,))), (1,))
EMP = ("emp", 6, ROWS, (0, 2))
STORE = (DEPT, EMP, ("void", 2, (), ()))
FIRSTS = (("dept", 4), ("emp", 6), ("void", 2))
COPY = (("dept", 4, (), (1,)), ("emp", 6, (), (0, 2)), ("void", 2, (), ()))


def begun(store=STORE, many=2):
    return begun_move(store, many, land=US)


def with_log(log, copy=COPY, last=None, many=2):
    return many, FIRSTS, last, copy, log


def table_there(move, store, table):
    return next(entry for entry in store_there(move, store) if entry[0] == table)


class Begun(unittest.TestCase):

    def test_told(self):
        told = kept_whole(self, lambda store: begun_move(store, 4, land=US), STORE)
        self.assertEqual(told, (4, FIRSTS, None, COPY, ()))
        self.assertEqual(begun_move(many=1, rules=(), land=US, store=STORE), (1, FIRSTS, None, COPY, ()))

    def test_stores_without_rows_and_without_tables(self):
        self.assertEqual(begun_move((), 9, land=US), (9, (), None, (), ()))
        self.assertEqual(begun_move(COPY, 9, land=US), (9, FIRSTS, None, COPY, ()))

    def test_strays(self):
        emp = tuple(("emp", row[0]) for row in ROWS)
        for rules, land, spots in (((("stay", EU),), US, (("dept", 3),) + emp), ((("stay", US),), EU, (("dept", 1),)),
                                   ((("kept", EU, 9), ("stay", US)), "zz", (("dept", 1),)),
                                   ((("stay", EU), ("stay", US)), "zz", (("dept", 1), ("dept", 3)) + emp)):
            fields = refusal(self, NoHall, begun_move, STORE, 2, land=land, rules=rules)
            self.assertEqual(fields, {"word": "stay", "at": spots})

    def test_no_strays(self):
        for rules, land in (((("stay", EU),), EU), ((("kept", EU, 99), ("struck", EU, 1), ("told", EU)), US),
                            ((("stay", "zz"),), US), ((), "zz")):
            self.assertEqual(begun_move((EMP,), 2, land=land, rules=rules)[1], (("emp", 6),))

    def test_land_and_rules_by_name_alone(self):
        with self.assertRaises(TypeError):
            begun_move(STORE, 2, US)


class Logs(unittest.TestCase):

    def test_behind(self):
        move = begun()
        told = kept_whole(self, lambda *things: logged(*things, tick=4), move, ("drop", "emp", 3), True)
        self.assertEqual(told, move[:4] + (((4, ("drop", "emp", 3), True),),))
        other = logged(answer=6, deed=("put", "emp", EU, ()), tick=5, move=told)
        self.assertEqual(other, move[:4] + (((4, ("drop", "emp", 3), True), (5, ("put", "emp", EU, ()), 6)),))
        self.assertEqual(logged(told, ("drop", "emp", 3), True, tick=4)[4], told[4] * 2)
        with self.assertRaises(TypeError):
            logged(move, ("drop", "emp", 3), True, 4)


class Copied(unittest.TestCase):

    def rows(self, move):
        return [(entry[0], entry[2]) for entry in move[3] if entry[2]]

    def test_so_many_at_a_time(self):
        move = begun()
        self.assertIs(is_left(move, STORE), True)
        move = kept_whole(self, copied_on, move, STORE)
        self.assertEqual(self.rows(move), [("dept", DEPT[2])])
        self.assertEqual(move[:3] + move[4:], (2, FIRSTS, ("dept", 3), ()))
        self.assertIs(kept_whole(self, is_left, move, STORE), True)
        move = copied_on(store=STORE, move=move)
        self.assertEqual(self.rows(move), [("dept", DEPT[2]), ("emp", ROWS[:2])])
        self.assertEqual(move[2], ("emp", 2))
        self.assertIs(is_left(move, STORE), True)
        move = copied_on(move, STORE)
        self.assertEqual(move, (2, FIRSTS, ("emp", 5), STORE, ()))
        self.assertIs(is_left(store=STORE, move=move), False)
        self.assertEqual(copied_on(move, STORE), move)

    def test_fewer_and_more_left_than_many(self):
        for many in (1, 3, 5, 6, 7, 10 ** 30):
            move = copied_on(begun(many=many), STORE)
            self.assertEqual(sum(len(entry[2]) for entry in move[3]), min(many, 6))
            self.assertIs(is_left(move, STORE), many < 6)

    def test_nothing_left(self):
        for store in ((), COPY, STORE[2:]):
            move = begun(store)
            self.assertIs(is_left(move, store), False)
            self.assertEqual(copied_on(move, store), move)

    def test_rows_put_behind_firsts_and_tables_anew(self):
        later = (DEPT[:1] + (5, DEPT[2] + ((4, EU, 9, ()),), (1,)), EMP, ("eve", 1, ((0, EU, 9, ()),), ()),
                 ("void", 3, ((2, EU, 9, ()),), ()))
        move = copied_on(begun(many=9), later)
        self.assertEqual(move, (9, FIRSTS, ("emp", 5), STORE, ()))
        self.assertIs(is_left(move, later), False)
        self.assertIs(is_left(begun(()), later), False)

    def test_an_id_below_the_next_of_its_own_table(self):
        store = (("dept", 9, ((5, EU, 0, ()),), ()), ("emp", 1, ((0, EU, 0, ()),), ()))
        later = (store[0], ("emp", 9, ((0, EU, 0, ()), (1, EU, 3, ()), (5, EU, 3, ())), ()))
        self.assertEqual(copied_on(begun(store, 9), later)[2:4], (("emp", 0), store))

    def test_as_rows_stand_now(self):
        move = copied_on(begun(), STORE)
        later = (("dept", 4, (), ()), ("emp", 6, ((2, EU, 2, (99,)), (5, EU, 5, (5,))), ()), STORE[2])
        told = copied_on(move, later)
        self.assertEqual(self.rows(told), [("dept", DEPT[2]), ("emp", later[1][2])])
        self.assertEqual(told[2], ("emp", 5))

    def test_dropped_ahead_of_their_turn(self):
        move = copied_on(begun(many=1), STORE)
        self.assertEqual(move[2], ("dept", 1))
        later = (("dept", 4, DEPT[2][:1], ()), ("emp", 6, (), ()), STORE[2])
        self.assertIs(is_left(move, later), False)
        self.assertEqual(copied_on(move, later), move)


class There(unittest.TestCase):

    def test_nothing_copied_yet(self):
        self.assertEqual(kept_whole(self, store_there, begun(), STORE), COPY)
        self.assertEqual(store_there((1, (), None, (), ()), ()), ())

    def test_all_copied(self):
        self.assertEqual(store_there(store=STORE, move=copied_on(begun(many=9), STORE)), STORE)

    def test_tables_nexts_and_indexes_of_the_store(self):
        store = (("dept", 7, (), ()), ("emp", 8, (), (1,)), ("eve", 0, (), (4,)), ("void", 9, (), (0,)))
        move = copied_on(begun(many=9), STORE)
        self.assertEqual(store_there(move, store), (("dept", 7, DEPT[2], ()), ("emp", 8, ROWS, (1,)), store[2], store[3]))

    def test_put(self):
        log = ((4, ("put", "emp", US, (7, None)), 8), (5, ("put", "emp", EU, ()), 7), (5, ("put", "eve", EU, ()), 0))
        store = STORE + (("eve", 1, (), ()),)
        store = tuple(sorted(store))
        move = with_log(log, copy=STORE)
        self.assertEqual(table_there(move, store, "emp")[2], ROWS + ((7, EU, 5, ()), (8, US, 4, (7, None))))
        self.assertEqual(table_there(move, store, "eve"), ("eve", 1, ((0, EU, 5, ()),), ()))

    def test_put_in_the_place_of_one_of_its_spot(self):
        move = with_log(((9, ("put", "emp", US, (1,)), 2),), copy=STORE)
        self.assertEqual(table_there(move, STORE, "emp")[2], (ROWS[0], (2, US, 9, (1,)), ROWS[2], ROWS[3]))

    def test_set_and_add(self):
        for deed, told in ((("set", "emp", 2, 0, 50), 50), (("add", "emp", 2, 0, 7), 9), (("set", "emp", 2, 0, None), None)):
            move = with_log(((9, deed, told),), copy=STORE)
            self.assertEqual(table_there(move, STORE, "emp")[2], (ROWS[0], (2, EU, 2, (told,)), ROWS[2], ROWS[3]))

    def test_the_worth_of_its_number_alone(self):
        log = ((1, ("put", "emp", EU, (1, 2, 3)), 6), (2, ("set", "emp", 6, 1, 9), 9), (3, ("add", "emp", 6, 2, -3), 0))
        self.assertEqual(table_there(with_log(log), STORE, "emp")[2], ((6, EU, 1, (1, 9, 0)),))

    def test_where_the_row_is_not_there_or_has_no_such_worth(self):
        for deed, told in ((("set", "emp", 1, 0, 5), 5), (("add", "emp", 7, 0, 5), 5), (("set", "emp", 2, 1, 5), 5),
                           (("add", "emp", 2, 9, 5), 5), (("set", "dept", 1, 0, 5), 5), (("drop", "emp", 1), True),
                           (("drop", "eve", 0), True), (("set", "eve", 0, 0, 5), 5)):
            self.assertEqual(store_there(with_log(((9, deed, told),), copy=STORE), STORE), STORE)

    def test_drop_and_index(self):
        log = ((9, ("index", "emp", 0), True), (9, ("index", "eve", 0), True), (9, ("drop", "emp", 3), True))
        move = with_log(log, copy=STORE)
        self.assertEqual(store_there(move, STORE), (DEPT, ("emp", 6, ROWS[:2] + ROWS[3:], (0, 2)), STORE[2]))

    def test_a_put_of_an_id_dropped_later(self):
        log = ((4, ("put", "emp", US, (7,)), 6), (4, ("set", "emp", 6, 0, 8), 8), (5, ("drop", "emp", 6), True))
        self.assertEqual(store_there(with_log(log, copy=STORE), STORE), STORE)
        self.assertEqual(table_there(with_log(log[:2], copy=STORE), STORE, "emp")[2], ROWS + ((6, US, 4, (8,)),))

    def test_deed_by_deed_in_order(self):
        log = tuple((9, ("set", "emp", 0, 0, worth), worth) for worth in (5, 8, 6))
        self.assertEqual(table_there(with_log(log, copy=STORE), STORE, "emp")[2][0], (0, EU, 0, (6,)))

    def test_rows_led_of_a_table_that_the_store_has_not(self):
        move = with_log(((9, ("put", "emp", EU, ()), 6),), copy=STORE)
        self.assertEqual(store_there(move, STORE[:1]), STORE[:1])


class Struck(unittest.TestCase):
    rules = (("struck", EU, 4),)

    def struck(self, move, store, tick=6):
        return kept_whole(self, lambda *things: move_struck(*things, tick=tick, rules=self.rules), move, store)

    def test_copy_and_log(self):
        log = ((1, ("put", "emp", EU, (1,)), 6), (2, ("set", "emp", 0, 0, 9), 9), (2, ("put", "emp", US, ()), 7),
               (3, ("set", "emp", 3, 0, 9), 9), (4, ("index", "emp", 0), True))
        told = self.struck(with_log(log, copy=STORE, last=("emp", 2)), STORE)
        copy = (("dept", 4, DEPT[2][:1], (1,)), ("emp", 6, ROWS[2:], (0, 2)), STORE[2])
        self.assertEqual(told, (2, FIRSTS, ("emp", 2), copy, log[2:]))

    def test_by_what_is_due_in_the_store_alone(self):
        log = ((2, ("set", "emp", 0, 0, 9), 9), (2, ("set", "emp", 5, 0, 9), 9))
        move = with_log(log)
        self.assertEqual(self.struck(move, STORE), with_log(log[1:]))
        self.assertEqual(self.struck(move, COPY), move)

    def test_no_rules(self):
        move = with_log(((0, ("put", "emp", EU, ()), 6),), copy=STORE)
        self.assertEqual(move_struck(move, STORE, tick=99), move)
        self.assertEqual(move_struck(rules=(), tick=99, store=STORE, move=move), move)
        self.assertEqual(self.struck(move, STORE, tick=3), move)
        with self.assertRaises(TypeError):
            move_struck(move, STORE, 99)


class Broken(unittest.TestCase):
    rules = (("kept", US, 4), ("stay", EU), ("struck", "zz", 1))

    def broken(self, deed, answer, land=US):
        return kept_whole(self, lambda *things: broken_by(*things, land=land, rules=self.rules), deed, answer)

    def test_a_put_that_strays_there(self):
        self.assertEqual(self.broken(("put", "emp", EU, (1,)), 7), ("emp", 7))
        self.assertEqual(self.broken(("put", "emp", EU, ()), 0, "zz"), ("emp", 0))
        self.assertEqual(broken_by(rules=self.rules, land=US, answer=3, deed=("put", "dept", EU, ())), ("dept", 3))

    def test_puts_that_dont(self):
        self.assertIsNone(self.broken(("put", "emp", EU, (1,)), 7, EU))
        self.assertIsNone(self.broken(("put", "emp", US, (1,)), 7, EU))
        self.assertIsNone(self.broken(("put", "emp", "zz", (1,)), 7))
        self.assertIsNone(broken_by(("put", "emp", EU, ()), 7, land=US))

    def test_a_refused_one(self):
        self.assertIsNone(self.broken(("put", "emp", EU, ()), ("no", "stay")))

    def test_deeds_of_other_kinds(self):
        for deed, told in ((("set", "emp", 1, 0, 5), 5), (("add", "emp", 1, 0, 5), 5), (("drop", "emp", 1), True),
                           (("index", "emp", 1), True), (("drop", "emp", 1), ("no", "row"))):
            self.assertIsNone(self.broken(deed, told))

    def test_land_and_rules_by_name_alone(self):
        with self.assertRaises(TypeError):
            broken_by(("put", "emp", EU, ()), 7, US)


class Whole(unittest.TestCase):
    """Whatever is DONE meanwhile, what is moved is whole (M3), and nothing DUE is left anywhere (M5)."""

    def moved(self, chance, store, rules, many):
        """A MOVE to its end: the STORE, the MOVE, and whether it was ever BROKEN."""
        move = begun_move(store, many, land="zz", rules=rules)
        tick, broken = 4, False
        while True:
            tick += 1
            for _ in range(chance.randrange(6)):
                deed = some_deed(chance, tables=("dept", "emp", "eve"))
                store, told = deed_done(store, deed, tick=tick, land=EU, rules=rules)
                if not isinstance(told, tuple) or told[0] != "no":
                    broken = broken or broken_by(deed, told, land="zz", rules=rules) is not None
                    move = logged(move, deed, told, tick=tick)
            move = move_struck(move, store, tick=tick, rules=rules)
            store = store_struck(store, rules=rules, tick=tick)
            move = copied_on(move, store)
            places = (("store", store), ("copy", move[3]), ("log", move[4]))
            self.assertEqual(due_in(places, rules=rules, tick=tick), ())
            self.assertTrue(is_store(move[3]) and is_store(store_there(move, store)))
            if not is_left(move, store):
                return store, move, broken

    def test_the_store_there_is_the_store(self):
        chance = random.Random(37)
        struck = broken = long_ones = 0
        for _ in range(400):
            rules = chance.choice(((), (("struck", EU, 3),), (("kept", US, 2), ("struck", EU, 5), ("struck", US, 1)),
                                   (("stay", "none"), ("struck", US, 6))))
            begin = some_store(chance, deeds=chance.randrange(60))
            store, move, is_broken = self.moved(chance, begin, rules, chance.choice((1, 1, 2, 4)))
            self.assertEqual(store_there(move, store), store)
            self.assertIs(is_broken, False)
            long_ones += len(move[4]) > 6
            struck += due_rows(begin, rules=rules, tick=8) != ()
        self.assertGreater(struck, 50)
        self.assertGreater(long_ones, 50)

    def test_without_a_deed_that_breaks_nothing_strays_there(self):
        chance = random.Random(40)
        rules = (("stay", US),)
        ends = {True: 0, False: 0}
        for _ in range(200):
            begin = some_store(chance, deeds=8, lands=(EU,))
            # In a HOUSE of us there are none that are refused for their land.
            store = begin
            move = begun_move(store, 1, land=EU, rules=rules)
            broken = False
            for tick in range(4, 8):
                deed = some_deed(chance)
                store, told = deed_done(store, deed, tick=tick, land=US, rules=rules)
                if not isinstance(told, tuple) or told[0] != "no":
                    spot = broken_by(deed, told, land=EU, rules=rules)
                    broken = broken or spot is not None
                    if spot is not None:
                        self.assertEqual((spot, deed[2]), ((deed[1], told), US))
                    move = logged(move, deed, told, tick=tick)
            strays = [row for entry in store_there(copied_on(move, store), store) for row in entry[2] if row[1] == US]
            ends[broken] += 1
            if not broken:
                self.assertEqual(strays, [])
        self.assertGreater(min(ends.values()), 20)


if __name__ == "__main__":
    unittest.main()
