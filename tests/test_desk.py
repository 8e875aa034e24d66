"""A desk: points 90, 91 and 92."""

import unittest

from tenanthall.desk import Desk
from tenanthall.errors import NoBack, NoHall, NoLine, NoTenant
from tenanthall.hall import Hall
from tests.hallsamples import EU, MUCH, SLOW, TICK, US
from tests.samples import JOBS, RULES, kept_whole, refusal

OPENED = "do house h eu 99 | house k us 50 | open ann h 40 1 40 | open bob h 1 1 2"

# Each text with the STEP that it writes.
STEPS = (
    ("house h eu 9", ("house", "h", EU, 9)),
    ("house abcdefgh us 0", ("house", "abcdefgh", US, 0)),
    ("house h eu 999999999999", ("house", "h", EU, 999999999999)),
    ("open ann h 1 2 4", ("open", "ann", "h", ((1, 2), 4))),
    ("price", ("price", ())),
    ("price room 0:2 steps 0:3,5:1", ("price", (("room", ((0, 2),)), ("steps", ((0, 3), (5, 1)))))),
    ("price letters 0:0,1:1,2:0,999999999999:7", ("price", (("letters", ((0, 0), (1, 1), (2, 0), (999999999999, 7))),))),
    ("move ann k", ("move", "ann", "k")),
    ("break ann", ("break", "ann")),
    ("fall h", ("fall", "h")),
    ("save ann", ("save", "ann")),
    ("restore ann", ("restore", "ann")),
    ("export ann", ("export", "ann")),
    ("correct ann 0 steps -2", ("correct", "ann", (0, "steps", -2))),
    ("correct ann 12 letters 7", ("correct", "ann", (12, "letters", 7))),
    ("tick", TICK),
    ("tick ann:3 bob:1 ann:0", ("tick", (("ann", 3), ("bob", 1), ("ann", 0)))),
) + tuple((f"rule {text}", ("rule", rule)) for rule, text in RULES) + tuple(
    (f"job ann {text}", ("job", "ann", job)) for job, text, _, _ in JOBS)

# Texts that write no STEP.
NO_STEPS = """house|house h|house h eu|house h eu 9 9|house h eu -1|house h eu 09|house h eu x|house H eu 9|house h eu 1234567890123
|house ninesigns eu 9|open ann h|open ann h 1 2|open ann h 1 2 4 5|open ann h 2 4 4|open ann h 1 0 4|open ann h 1 2 0|open ann h -1 2 4
|open Ann h 1 2 4|rule|rule stay|rule stay eu 1|rule kept eu|rule kept eu 0|rule gone eu|rule stay Eu|price room|price rooms 0:2
|price room 1:2|price room 0|price room 0:|price room :2|price room 0:2:3|price room 0:2,|price room 0:2,0:3|price room 0:-2
|price steps 0:3 room 0:2|price room 0:2 room 0:3|price room 0:1,1:1,2:1,3:1,4:1|price room 00:2|price 0:2|price room 0:2 steps
|price room 0:1234567890123|move ann|move ann k k|move Ann k|move ann 1|break|break ann ann|break ann1|fall|fall h k|fall h.|save
|save ann bob|restore|restore -|export|export ann bob|export 'ann|correct ann 0 steps|correct ann 0 steps 0|correct ann 0 steps -0
|correct ann 0 step 1|correct ann -1 steps 1|correct ann 0 steps 1 1|correct ann steps 0 1|correct ann 0 steps x|correct ann 00 steps 1
|correct ann 0 steps 01|correct ann 0 steps -1234567890123|correct Ann 0 steps 1|job|job ann|job Ann get emp 3|job ann get emp
|job ann get emp 3 3|job ann get emp x|job ann put emp eu|job ann put emp eu 7|job ann put emp eu / x|job ann stay eu|job ann tick
|job get emp 3|job ann rows emp 0=7|job ann set emp 3 1 'a,b|tick ann|tick ann:|tick :3|tick ann:-1|tick ann:03|tick Ann:3|tick ann:3:1
|tick ann: 3|tick 3:ann|tick ann:3,bob:1|tick ann:1234567890123|import ann|import ann x|import ann table|all|all tick|told ann|do tick
|undo|now|Tick|tick:|ticks|TICK""".replace("\n", "").split("|")


class Case(unittest.TestCase):

    def desk(self, *rows):
        desk = Desk()
        for row in (OPENED,) + rows:
            desk.say(row)
        return desk

    def no_line(self, desk, row):
        self.assertEqual(refusal(self, NoLine, desk.say, row), {"line": row})


class Doing(Case):

    def test_each_step(self):
        for text, step in STEPS:
            # As a Hall does it, or as it refuses it.
            for behind in ((), ("house h eu 99", "house k us 9", "open ann h 1 2 4")):
                hall, desk = Hall(), Desk()
                hall.run(tuple(told for other in behind for word, told in STEPS + OTHERS if word == other))
                for other in behind:
                    desk.say(f"do {other}")
                try:
                    hall.step(step)
                except (NoHall, NoTenant) as refused:
                    self.assertEqual(refusal(self, refused.__class__, desk.say, f"do {text}"), vars(refused), text)
                    continue
                self.assertEqual(kept_whole(self, desk.say, f"do {text}"), "1")
                self.assertEqual(desk.say("now"), str(hall.now()[0]))
                self.assertEqual(desk.say("tenants"), " ".join(hall.tenants()) or "-")

    def test_several(self):
        desk = Desk()
        self.assertEqual(desk.say(row=OPENED), "4")
        self.assertEqual(desk.say("do tick | tick ann:3 bob:1 | job ann put emp eu / 7 | tick"), "4")
        self.assertEqual((desk.say("now"), desk.say("told ann 0"), desk.say("undo 8"), desk.say("tenants")), ("3", "0", "0", "-"))

    def test_more_than_a_hall_s_limit(self):
        desk = Desk()
        self.assertEqual(desk.say("do " + " | ".join(["tick"] * 260)), "260")
        self.assertEqual(desk.say("now"), "260")

    def test_refused_in_the_middle(self):
        desk = self.desk()
        self.assertEqual(refusal(self, NoTenant, desk.say, "do tick | save cy | tick"), {"name": "cy"})
        self.assertEqual((desk.say("now"), desk.say("undo")), ("1", "4"))
        self.assertEqual(refusal(self, NoHall, desk.say, "do fall x"), {"word": "house", "at": "x"})

    def test_all(self):
        desk = self.desk()
        self.assertEqual(desk.say("all tick | job ann get emp 0 | tick"), "ok")
        self.assertEqual((desk.say("now"), desk.say("undo"), desk.say("now")), ("2", "4", "0"))
        self.assertEqual(desk.say("all tick"), "ok")
        self.assertEqual(refusal(self, NoTenant, desk.say, "all tick | tick | save cy"), {"name": "cy"})
        self.assertEqual((desk.say("now"), desk.say("undo")), ("1", "4"))

    def test_undo(self):
        desk = self.desk("do tick | tick | tick")
        self.assertEqual([desk.say(row) for row in ("undo", "undo 1", "undo 2", "undo 3", "do tick")], ["6", "5", "3", "0", "1"])
        for row, times in (("undo 2", 2), ("undo 0", 0), ("undo 999999999999", 999999999999)):
            self.assertEqual(refusal(self, NoBack, desk.say, row), {"times": times})
        desk.say("undo")
        self.assertEqual(refusal(self, NoBack, desk.say, "undo"), {"times": 1})

    def test_of_the_calendar(self):
        desk = self.desk("do tick | tick | tick | tick | price room 0:2 | tick")
        self.assertEqual(refusal(self, NoHall, desk.say, "do price"), {"word": "day", "at": 1})


OTHERS = (("house h eu 99", ("house", "h", EU, 99)), ("house k us 9", ("house", "k", US, 9)))


class Asking(Case):

    def test_void(self):
        desk = Desk()
        self.assertEqual((desk.say("now"), desk.say("tenants")), ("0", "-"))
        for row in ("where ann", "shape ann", "told ann 0", "coins ann"):
            self.assertEqual(refusal(self, NoTenant, desk.say, row), {"name": "ann"})

    def test_tenants_and_where(self):
        desk = self.desk("do open zoe k 1 1 1 | open abe k 1 1 1 | move bob k")
        self.assertEqual(desk.say("tenants"), "abe ann bob zoe")
        self.assertEqual([desk.say(f"where {name}") for name in ("ann", "bob", "zoe")], ["h", "h", "k"])
        desk.say("do tick")
        self.assertEqual(desk.say("where bob"), "k")

    def test_shape(self):
        desk = self.desk("do job ann put emp eu / 7 | job ann put emp us / 8 | job ann drop emp 0 | job ann index dept 0 | tick")
        self.assertEqual(desk.say("shape ann"), "dept:0:0 emp:2:1")
        self.assertEqual(desk.say("shape bob"), "-")

    def test_told(self):
        jobs = (("put emp eu / 7 'a^.b^^_c @emp.0 -", "0"), ("get emp 0", "7,'a^.b^^_c,@emp.0,-"), ("put emp eu /", "1"), ("get emp 1", "-"),
                ("set emp 0 1 -", "-"), ("set emp 0 1 '", "'"), ("set emp 0 1 @dept.7", "@dept.7"), ("add emp 0 0 -9", "-2"),
                ("index emp 0", "+"), ("rows emp - 9", "0,1"), ("rows emp - 1", "0"), ("rows emp - 0", "-"), ("rows emp 0=1 9", "-"),
                ("count emp -", "2"), ("sum emp 0 -", "-2"), ("follow emp 0 2", "-2,@dept.7,@emp.0,-"), ("drop emp 1", "+"),
                ("get zz 0", "no table"), ("get emp 1", "no row"), ("follow emp 0 0", "no worth"), ("follow emp 0 1", "no link"))
        desk = self.desk("do " + " | ".join(f"job ann {text}" for text, _ in jobs), "do tick | tick | tick")
        for number, (text, told) in enumerate(jobs):
            self.assertEqual(desk.say(f"told ann {number}"), told, text)

    def test_told_of_rules(self):
        desk = self.desk("do rule stay us | rule kept eu 9 | job ann put emp us / | job ann put emp eu / | job ann drop emp 0 | tick")
        self.assertEqual([desk.say(f"told ann {number}") for number in range(4)], ["no stay", "0", "no kept", "-"])

    def test_told_of_jobs_that_are_not_done(self):
        desk = self.desk("do job ann put emp eu / 7")
        self.assertEqual([desk.say(f"told ann {number}") for number in (0, 1, 999999999999)], ["-", "-", "-"])
        desk.say("do tick")
        self.assertEqual(desk.say("told ann 0"), "0")

    def test_coins(self):
        desk = self.desk("do price room 0:2 steps 0:3 | job ann put emp eu / | tick | tick | tick | tick")
        self.assertEqual(desk.say("coins ann"), "0")
        desk.say("do tick")
        self.assertEqual((desk.say("coins ann"), desk.say("coins bob")), ("13", "0"))
        desk.say("do correct ann 0 room -5 | correct ann 0 steps -1 | correct bob 0 steps 1 | correct bob 0 steps -1")
        self.assertEqual((desk.say("coins ann"), desk.say("coins bob")), ("0", "0"))
        desk.say("undo 3")
        self.assertEqual(desk.say("coins ann"), "3")

    def test_answers_are_texts(self):
        desk = self.desk()
        for row in ("do tick", "all tick", "undo", "now", "tenants", "where ann", "shape ann", "told ann 0", "coins ann"):
            self.assertIs(desk.say(row).__class__, str)


class NoRows(Case):

    def test_steps_of_no_form(self):
        desk = self.desk()
        for text in NO_STEPS:
            for row in (f"do {text}", f"all {text}", f"do tick | {text}", f"do {text} | tick", f"do fall x | {text}"):
                self.no_line(desk, row)
        self.assertEqual((desk.say("now"), desk.say("undo")), ("0", "3"))

    def test_words_without_signs(self):
        desk = self.desk()
        for row in ("now", "tenants", "where ann", "told ann 0", "undo", "undo 1", "do tick", "do tick | tick", "all tick ann:3"):
            for wrong in (f" {row}", f"{row} ", f"  {row}", f"{row}\n", f"\n{row}", f"{row}\t"):
                self.no_line(desk, wrong)
            if " " in row:
                self.no_line(desk, row.replace(" ", "  ", 1))
                self.no_line(desk, row[::-1].replace(" ", "  ", 1)[::-1])
        for wrong in ("", " ", "  ", "\n", "|", " | "):
            self.no_line(desk, wrong)

    def test_bars(self):
        desk = self.desk()
        for row in ("do", "do |", "do | tick", "do tick |", "do tick | | tick", "do tick || tick", "do tick|tick", "all", "all |", "all tick |",
                    "do tick |tick", "do tick| tick", "|", "now | now", "do tick | now"):
            self.no_line(desk, row)

    def test_questions_of_no_form(self):
        desk = self.desk()
        for row in ("now 1", "now ann", "Now", "tenants ann", "where", "where Ann", "where ann bob", "where ninesigns", "where ann1", "shape",
                    "shape ann 1", "shape -", "told", "told ann", "told ann -1", "told ann x", "told ann 00", "told ann 1234567890123",
                    "told 0 ann", "told ann 0 0", "told Ann 0", "coins", "coins ann bob", "coins 7", "undo -1", "undo 01", "undo x", "undo 1 1",
                    "undo 1234567890123", "undo +1", "redo", "help", "tick", "job ann get emp 0", "ann", "0"):
            self.no_line(desk, row)

    def test_ahead_of_all_else(self):
        desk = self.desk()
        for row in ("do save zz | tick x", "all fall x | fall", "told zz 00", "undo 999999999999 "):
            self.no_line(desk, row)
        self.assertEqual(desk.say("now"), "0")

    def test_signs_of_all_kinds(self):
        desk = self.desk()
        for row in ("n\u00f6w", "where \u00e4nn", "undo \u0661", "undo \u00b2", "told ann \u0663", "do tick ann:\u0663", "do house h eu \u0669", "\x00", "now\x00",
                    "do job ann put emp eu / '\u00e4", "do job ann put emp eu / '" + chr(37)):
            self.no_line(desk, row)

    def test_said_with_a_bar(self):
        desk = self.desk("do job ann put emp eu / '| 'a|b | tick")
        self.assertEqual(desk.say("told ann 0"), "0")
        desk.say("do job ann get emp 0 | tick")
        self.assertEqual(desk.say("told ann 1"), "'|,'a|b")


class Counts(Case):

    def test_rows(self):
        desk = Desk()
        self.assertEqual(desk.counts(), (0, 0))
        desk.say("now")
        desk.say(OPENED)
        self.assertEqual(desk.counts(), (2, 2))
        for error, row in ((NoLine, ""), (NoLine, "do"), (NoTenant, "where zz"), (NoTenant, "do tick | save zz"), (NoHall, "all tick | fall x"),
                           (NoBack, "undo 99")):
            refusal(self, error, desk.say, row)
        self.assertEqual(desk.counts(), (8, 8))

    def test_each_desk_its_own_hall(self):
        one, other = self.desk(), Desk()
        self.assertEqual((one.say("tenants"), other.say("tenants")), ("ann bob", "-"))
        self.assertEqual(other.counts(), (1, 1))


if __name__ == "__main__":
    unittest.main()
