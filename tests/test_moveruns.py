"""RUNS MOVED: point 41, by points 37 to 40, 42 and 43."""

import random
import unittest

from tenanthall.alone import run_alone
from tenanthall.errors import NoHall
from tenanthall.movechecker import lets_move
from tenanthall.moveruns import run_moved
from tests.model import some_job, some_store
from tests.samples import kept_whole, refusal

EU, US, ZZ = "eu", "us", "zz"
MUCH = ((50, 1), 99)
ROWS = tuple((number, EU, 0, (number,)) for number in range(5))
STORE = (("emp", 5, ROWS, (0,)), ("void", 2, (), ()))


def moved(handed=(), store=STORE, ticks=6, begin=0, many=2, share=MUCH, rules=(), there=US):
    return run_moved(store, share, handed, ticks=ticks, begin=begin, many=many, land=EU, there=there, rules=rules)


def alone(handed=(), store=STORE, ticks=6, share=MUCH, rules=()):
    life, _, dones = run_alone(store, share, handed, ticks=ticks, land=EU, rules=rules)
    return life, dones


class Begun(unittest.TestCase):

    def test_at_tick_0(self):
        life, dones, paper = kept_whole(self, moved, (), STORE)
        copied = tuple((1 + number // 2, "emp", row) for number, row in enumerate(ROWS))
        self.assertEqual(paper, ("moved", copied, ()))
        self.assertEqual((life, dones), alone())
        self.assertEqual(lets_move(STORE, paper, many=2, land=US), "moved")

    def test_by_places_and_names(self):
        told = run_moved(STORE, MUCH, (), ticks=6, begin=0, many=2, land=EU, there=US)
        self.assertEqual(run_moved(rules=(), there=US, land=EU, many=2, begin=0, ticks=6, handed=(), share=MUCH, store=STORE), told)
        with self.assertRaises(TypeError):
            run_moved(STORE, MUCH, (), 6, 0, 2, EU, US)

    def test_at_the_last_tick_and_behind_all(self):
        for begin in (5, 6, 99):
            life, dones, paper = moved(begin=begin)
            self.assertIsNone(paper)
            self.assertEqual((life, dones), alone())
        self.assertIsNone(moved(ticks=0, begin=0)[2])

    def test_it_ends_just_in_time(self):
        # Five ROWS by twos are copied at the ends of three ticks.
        for begin, ended in ((0, True), (2, True), (3, False), (4, False)):
            self.assertEqual(moved(begin=begin)[2] is not None, ended)
        self.assertEqual([tick for tick, _, _ in moved(begin=2)[2][1]], [3, 3, 4, 4, 5])

    def test_many(self):
        for many, last in ((1, 5), (2, 3), (3, 2), (4, 2), (5, 1), (9, 1)):
            self.assertEqual(moved(many=many)[2][1][-1][0], last)

    def test_nothing_to_be_copied(self):
        for store in ((), STORE[1:]):
            self.assertEqual(moved(store=store)[2], ("moved", (), ()))
            self.assertIsNone(moved(store=store, ticks=1)[2])

    def test_strays_at_its_beginning(self):
        rules = (("stay", EU),)
        told = refusal(self, NoHall, moved, rules=rules)
        self.assertEqual(told, {"word": "stay", "at": tuple(("emp", number) for number in range(5))})
        # Not where it never begins, nor of ROWS that are gone by then, DUE or dropped.
        self.assertIsNone(moved(rules=rules, begin=6)[2])
        handed = tuple((1, ("drop", "emp", number)) for number in range(4))
        self.assertEqual(refusal(self, NoHall, moved, handed, rules=rules, begin=1), {"word": "stay", "at": (("emp", 4),)})
        self.assertEqual(moved(rules=(("stay", EU), ("struck", EU, 1)), begin=1)[2], ("moved", (), ()))


class Meanwhile(unittest.TestCase):

    def test_deeds_from_then_on_are_logged(self):
        handed = ((0, ("set", "emp", 0, 0, 50)), (1, ("get", "emp", 0)), (1, ("put", "emp", EU, (6,))),
                  (1, ("put", "emp", US, (7,))), (2, ("add", "emp", 5, 0, 1)), (2, ("add", "emp", 9, 0, 1)),
                  (2, ("drop", "emp", 1)), (2, ("drop", "emp", 3)), (3, ("index", "emp", 1)))
        life, dones, paper = moved(handed)
        self.assertEqual((life, dones), alone(handed))
        log = ((1, handed[2][1], 5), (1, handed[3][1], 6), (2, handed[4][1], 7), (2, handed[6][1], True),
               (2, handed[7][1], True))
        # Of 0, 1, 2, 4 the last two were copied at the end of 2, and nothing was LEFT then.
        copied = ((1, "emp", (0, EU, 0, (50,))), (1, "emp", ROWS[1]), (2, "emp", ROWS[2]), (2, "emp", ROWS[4]))
        self.assertEqual(paper, ("moved", copied, log))

    def test_deeds_behind_the_switch_are_not_logged(self):
        handed = ((3, ("set", "emp", 0, 0, 50)), (4, ("set", "emp", 1, 0, 60)))
        life, _, paper = moved(handed)
        self.assertEqual(paper[2], ((3, handed[0][1], 50),))
        self.assertEqual(life[0][0][2][1], (1, EU, 0, (60,)))

    def test_a_deed_that_breaks(self):
        rules = (("stay", ZZ),)
        handed = ((1, ("set", "emp", 0, 0, 50)), (2, ("put", "emp", ZZ, ())), (2, ("set", "emp", 0, 0, 60)))
        # In a HOUSE of eu no ROW of zz is put at all.
        self.assertEqual(moved(handed, rules=rules)[2][0], "moved")
        told = run_moved(STORE, MUCH, handed, ticks=6, begin=0, many=2, land=ZZ, there=US, rules=rules)
        life, _, dones = run_alone(STORE, MUCH, handed, ticks=6, land=ZZ, rules=rules)
        paper = ("broken", ((1, handed[0][1], 50), (2, handed[1][1], 5)))
        self.assertEqual(told, (life, dones, paper))
        self.assertEqual(lets_move(life[0], paper, many=2, land=US, rules=rules), "broken")

    def test_broken_it_is_ahead_of_the_tick_s_end(self):
        rules = (("stay", ZZ),)
        for tick, word in ((1, "broken"), (3, "broken"), (4, "moved")):
            handed = ((tick, ("put", "emp", ZZ, ())),)
            told = run_moved(STORE, MUCH, handed, ticks=6, begin=0, many=2, land=ZZ, there=US, rules=rules)
            self.assertEqual(told[2][0], word)
            # Behind the SWITCH the land of the HOUSE is us: the "put" is refused.
            self.assertEqual(told[1], ((0, tick, 5 if word == "broken" else ("no", "stay")),))

    def test_broken_it_stays_in_its_land(self):
        handed = tuple((tick, ("put", "void", ZZ, ())) for tick in range(1, 9))
        _, dones, paper = run_moved(STORE, MUCH, handed, ticks=9, begin=0, many=2, land=ZZ, there=US, rules=(("stay", ZZ),))
        self.assertEqual(paper[0], "broken")
        self.assertEqual([told for _, _, told in dones], list(range(2, 10)))

    def test_at_the_tick_of_its_beginning_it_does_not_break(self):
        handed = ((0, ("put", "emp", ZZ, ())), (0, ("drop", "emp", 5)))
        told = run_moved(STORE, MUCH, handed, ticks=6, begin=0, many=2, land=ZZ, there=US, rules=(("stay", ZZ),))
        self.assertEqual(told[2][0], "moved")
        self.assertEqual(told[2][2], ())

    def test_the_land_is_there_from_the_switch_on(self):
        rules = (("stay", US),)
        handed = tuple((tick, ("put", "void", US, ())) for tick in range(6))
        _, dones, paper = moved(handed, rules=rules)
        self.assertEqual([told for _, _, told in dones], [("no", "stay")] * 4 + [2, 3])
        self.assertEqual(paper[2], ())

    def test_rows_struck_while_it_goes_on(self):
        store = (("emp", 5, ROWS[:3] + ((3, ZZ, 0, ()), (4, ZZ, 1, ())), (0,)),)
        rules = (("struck", ZZ, 3),)
        handed = ((1, ("put", "emp", ZZ, ())), (1, ("set", "emp", 0, 0, 9)), (2, ("drop", "emp", 1)))
        life, dones, paper = moved(handed, store, rules=rules)
        self.assertEqual((life, dones), alone(handed, store, rules=rules))
        # 3 was copied at 2, and goes at 3; 4 and the ROW put at 1 would go at 4.
        copied = ((1, "emp", (0, EU, 0, (9,))), (1, "emp", ROWS[1]), (2, "emp", ROWS[2]), (3, "emp", store[0][2][4]))
        log = ((1, handed[0][1], 5), (1, handed[1][1], 9), (2, handed[2][1], True))
        self.assertEqual(paper, ("moved", copied, log))

    def test_rows_struck_from_what_was_copied(self):
        # 0 is copied at 1 and goes at 2, 1 is copied at 2 and goes at 3, with the ROW put at 1.
        store = (("emp", 5, ((0, ZZ, 0, ()), (1, ZZ, 1, ())) + ROWS[2:], ()),)
        rules = (("struck", ZZ, 2),)
        handed = ((1, ("put", "emp", ZZ, (1,))), (2, ("set", "emp", 5, 0, 2)), (2, ("set", "emp", 4, 0, 9)))
        _, _, paper = moved(handed, store, many=1, rules=rules)
        self.assertEqual(paper, ("moved", ((3, "emp", (2, EU, 0, (2,))), (4, "emp", (3, EU, 0, (3,))), (5, "emp", (4, EU, 0, (9,)))),
                                 ((2, handed[2][1], 9),)))

    def test_a_queue_goes_with_it(self):
        # One STEP a tick: the JOB begins ahead of the SWITCH and is DONE behind it.
        handed = ((0, ("count", "emp", ())), (0, ("get", "emp", 4)))
        told = moved(handed, share=((1, 1), 1), many=9, ticks=9)
        self.assertEqual(told[1], ((0, 5, 5), (1, 7, (4,))))
        self.assertEqual(told[:2], alone(handed, share=((1, 1), 1), ticks=9))


class Any(unittest.TestCase):
    """Where RULES have no "stay" of either land, all is as alone (M1, M2, M3); what is told is let by."""

    def test_as_alone(self):
        chance = random.Random(41)
        words = {}
        for _ in range(400):
            rules = chance.choice(((), (("struck", EU, 3),), (("kept", EU, 2), ("struck", EU, 4), ("struck", US, 1)),
                                   (("stay", ZZ), ("struck", ZZ, 2))))
            store = some_store(chance, deeds=30, ticks=1)
            share = chance.choice((((3, 2), 4), ((7, 1), 9), ((40, 1), 40)))
            handed = tuple((tick, some_job(chance)) for tick in sorted(chance.randrange(10) for _ in range(20)))
            many, begin = chance.choice((1, 2, 4)), chance.randrange(5)
            life, dones, paper = moved(handed, store, 12, begin, many, share, rules)
            self.assertEqual(repr((life, dones)), repr(alone(handed, store, 12, share, rules)))
            words[paper and paper[0]] = words.get(paper and paper[0], 0) + 1
        self.assertEqual(sorted(words, key=str), [None, "moved"])
        self.assertGreater(words["moved"], 200)

    def test_what_is_told_is_let_by(self):
        chance = random.Random(42)
        words = {"moved": 0, "broken": 0}
        for _ in range(600):
            rules = chance.choice(((("stay", EU), ("struck", US, 5)), (("kept", US, 3), ("stay", EU), ("struck", EU, 1))))
            store = some_store(chance, deeds=16, ticks=1, lands=(US,))
            handed = tuple((tick, some_job(chance, lands=(US,) * 25 + (EU,))) for tick in sorted(chance.randrange(8) for _ in range(20)))
            many, begin, ticks = chance.choice((1, 2)), chance.randrange(3), 14
            try:
                life, _, paper = moved(handed, store, ticks, begin, many, MUCH, rules)
            except NoHall as refused:
                self.assertEqual(refused.word, "stay")
                continue
            if paper is None:
                continue
            words[paper[0]] += 1
            if paper[0] == "broken":
                self.assertEqual(lets_move((), paper, many=many, land=US, rules=rules), "broken")
                continue
            # The STORE as it was at the SWITCH: at its tick there is no DEED behind it.
            for last in range(begin + 1, ticks):
                shorter = moved(handed, store, last + 1, begin, many, MUCH, rules)
                if shorter[2] is not None:
                    self.assertEqual(shorter[2], paper)
                    self.assertEqual(lets_move(shorter[0][0], paper, many=many, land=US, rules=rules), "moved")
                    break
        self.assertGreater(min(words.values()), 20)


if __name__ == "__main__":
    unittest.main()
