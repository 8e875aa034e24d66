"""The checker of BILL PAPERS: points 56, 58, 59 and 60."""

import random
import unittest

from tenanthall.billchecker import lets_bill
from tenanthall.billpapers import bill_paper
from tenanthall.bills import bill_of, bills_until, summed
from tenanthall.corrections import corrected, correction_lines
from tenanthall.days import noted
from tenanthall.errors import NoHall, NoPaper
from tests.samples import bent, kept_whole, refusal

PRICES = (("room", ((0, 2), (10, 5))), ("steps", ((0, 1), (5, 10), (20, 0))))
NOTES = ((0, "letters", 9), (0, "steps", 3), (1, "steps", 4), (3, "room", 12), (4, "steps", 6), (9, "room", 1))
LINES = ((0, "letters", 9, 0), (0, "steps", 3, 3), (1, "steps", 4, 22), (3, "room", 12, 30), (4, "steps", 6, 15))
SUMS = ("sums", 70)


def lets(thing, lines=LINES, until=5, notes=NOTES, **more):
    return lets_bill(notes, lines, until, thing, prices=PRICES, **more)


class Case(unittest.TestCase):

    def refused(self, thing, *more, **names):
        fields = refusal(self, NoPaper, lets, thing, *more, **names)
        return fields["word"], fields["at"]


class LetBy(Case):

    def test_sums(self):
        self.assertEqual(kept_whole(self, lets, SUMS, LINES), "sums")
        self.assertEqual(lets_bill(calendar=(5, 4), prices=PRICES, thing=SUMS, until=5, lines=LINES, notes=NOTES), "sums")
        self.assertEqual(lets(SUMS, LINES[::-1]), "sums")
        with self.assertRaises(TypeError):
            lets_bill(NOTES, LINES, 5, SUMS, PRICES)

    def test_in_parts(self):
        parts = ((1, "steps", 6, 30), (1, "steps", -2, -8), (7, "room", 1, -4), (7, "room", -1, 4), (8, "room", 0, 0))
        self.assertEqual(lets(SUMS, LINES[:2] + parts + LINES[3:]), "sums")

    def test_until_0_and_nothing(self):
        self.assertEqual(lets(("sums", 0), (), 0), "sums")
        self.assertEqual(lets(("sums", 0), (), 10 ** 90, ()), "sums")
        self.assertEqual(self.refused(("sums", 0), (), 1), ("off", (0, "letters")))
        self.assertEqual(self.refused(SUMS, LINES, 0), ("off", (0, "letters")))
        self.assertEqual(lets(("off", (0, "letters"), (9, 0), (0, 0)), LINES, 0), "off")

    def test_numbers_below_0(self):
        lines = ((2, "steps", -4, -9),)
        self.assertEqual(lets(("off", (2, "steps"), (-4, -9), (0, 0)), lines, 0), "off")
        self.assertEqual(self.refused(("off", (2, "steps"), (4, -9), (0, 0)), lines, 0), ("has", -1))
        self.assertEqual(self.refused(("sums", -9), lines, 0), ("off", (2, "steps")))
        self.assertEqual(self.refused(("sums", -70)), ("coins", -1))

    def test_off(self):
        for k, (day, kind, units, coins) in enumerate(LINES):
            for has in ((units + 1, coins), (units, coins - 1), (units, coins + 10 ** 40)):
                lines = bent(LINES, (k,), (day, kind) + has)
                self.assertEqual(kept_whole(self, lets, ("off", (day, kind), has, (units, coins)), lines), "off")
            self.assertEqual(lets(("off", (day, kind), (0, 0), (units, coins)), LINES[:k] + LINES[k + 1:]), "off")
        # Any place that is, not the least alone.
        lines = LINES[:1] + LINES[2:4]
        self.assertEqual(lets(("off", (4, "steps"), (0, 0), (6, 15)), lines), "off")

    def test_calendar(self):
        lines = bills_until(NOTES, 10, prices=PRICES, calendar=(1, 99))
        coins = sum(line[3] for line in lines)
        self.assertEqual(lets(("sums", coins), lines, 10, calendar=(1, 99)), "sums")
        self.assertEqual(self.refused(("sums", coins), lines, 10), ("off", (4, "steps")))


class Refused(Case):

    def test_shape(self):
        off = ("off", (0, "steps"), (3, 4), (3, 3))
        for thing in (None, True, 70, "sums", (), ("sums",), ("sums", None), ("sums", True), ("sums", "70"), ("sums", (70,)),
                      ("sums", 70, 0), ["sums", 70], ("Sums", 70), (["sums"], 70), ("off", 70), ("sums",) + off[1:], off[:3],
                      off + (1,), list(off), (None,) + off[1:]):
            self.assertEqual(self.refused(thing), ("shape", -1), thing)
        for wrong in (None, 0, (), (0,), (0, "steps", 1), [0, "steps"], ("steps", 0), (True, "steps"), (-1, "steps"),
                      (0, "step"), (0, None), (0, ["steps"]), (0, True)):
            self.assertEqual(self.refused(bent(off, (1,), wrong)), ("shape", -1), wrong)
        for place in (2, 3):
            for wrong in (None, 0, (), (3,), (3, 4, 5), [3, 4], (True, 4), (3, False), (3, None), ("3", 4)):
                self.assertEqual(self.refused(bent(off, (place,), wrong)), ("shape", -1), wrong)

    def test_coins(self):
        for coins in (69, 71, 0, -70, 10 ** 90):
            self.assertEqual(self.refused(("sums", coins)), ("coins", -1))

    def test_off_of_sums(self):
        for k, (day, kind, units, coins) in enumerate(LINES):
            for wrong in ((units + 1, coins), (units, coins + 1), (-units, coins)):
                total = 70 - coins + wrong[1]
                for told in (total, 70, 0):
                    self.assertEqual(self.refused(("sums", told), bent(LINES, (k,), (day, kind) + wrong)), ("off", (day, kind)))

    def test_the_least_of_lines_and_of_bills(self):
        self.assertEqual(self.refused(SUMS, LINES[1:4]), ("off", (0, "letters")))
        self.assertEqual(self.refused(SUMS, LINES[:4] + ((2, "room", 1, 1),)), ("off", (2, "room")))
        self.assertEqual(self.refused(SUMS, LINES[:4] + ((4, "room", 1, 1),)), ("off", (4, "room")))
        self.assertEqual(self.refused(SUMS, LINES[:4] + ((9, "room", 1, 5),)), ("off", (4, "steps")))
        self.assertEqual(self.refused(SUMS, LINES + ((9, "room", 1, 5),)), ("off", (9, "room")))

    def test_has_due_and_same(self):
        lines = bent(LINES, (2, 3), 23)
        place = (1, "steps")
        self.assertEqual(lets(("off", place, (4, 23), (4, 22)), lines), "off")
        for has in ((4, 22), (4, 24), (5, 23), (0, 0), (23, 4)):
            self.assertEqual(self.refused(("off", place, has, (4, 22)), lines), ("has", -1))
        for due in ((4, 23), (4, 21), (3, 22), (0, 0), (22, 4)):
            self.assertEqual(self.refused(("off", place, (4, 23), due), lines), ("due", -1))
        for day, kind, units, coins in LINES:
            self.assertEqual(self.refused(("off", (day, kind), (units, coins), (units, coins))), ("same", -1))
        for place in ((2, "steps"), (9, "room"), (10 ** 90, "letters")):
            self.assertEqual(self.refused(("off", place, (0, 0), (0, 0))), ("same", -1))

    def test_the_first_that_is_due(self):
        lines = bent(LINES, (2, 3), 23)
        self.assertEqual(self.refused(("sums", 70), lines), ("off", (1, "steps")))
        self.assertEqual(self.refused(("off", (1, "steps"), (9, 9), (9, 9)), lines), ("has", -1))
        self.assertEqual(self.refused(("off", (1, "steps"), (4, 23), (4, 23)), lines), ("due", -1))
        self.assertEqual(self.refused(("off", (0, "steps"), (3, 4), (3, 4))), ("has", -1))


class Whole(unittest.TestCase):
    """Points 58 and 60: what was billed and corrected comes to the bills; just one of both words is there."""

    def test_any_days(self):
        chance = random.Random(59)
        words = {"sums": 0, "off": 0}
        for _ in range(300):
            notes, lines, until = (), (), 0
            for _ in range(chance.randrange(14)):
                word = chance.choice(("note", "note", "bill", "correct"))
                kind = chance.choice(("letters", "room", "steps"))
                if word == "note":
                    notes = noted(notes, until, kind, chance.randrange(9))
                elif word == "bill":
                    lines += bill_of(notes, until, prices=PRICES)
                    until += 1
                else:
                    correction = (chance.randrange(until + 1), kind, chance.choice((-3, -1, 1, 5)))
                    try:
                        lines += correction_lines(notes, correction, until, prices=PRICES)
                        notes = corrected(notes, correction)
                    except NoHall:
                        pass
            paper = bill_paper(notes, lines, until, prices=PRICES)
            self.assertEqual(paper, ("sums", sum(line[3] for line in summed(lines))))
            self.assertEqual(lets(paper, lines, until, notes), "sums")
            bad = lines + ((chance.randrange(3), "steps", chance.randrange(-1, 2), chance.randrange(-1, 2)),)
            paper = bill_paper(notes, bad, until, prices=PRICES)
            words[paper[0]] += 1
            self.assertEqual(lets(paper, bad, until, notes), paper[0])
            if paper[0] == "off":
                for coins in range(-3, 4):
                    total = sum(line[3] for line in bad) + coins
                    self.assertEqual(refusal(self, NoPaper, lets, ("sums", total), bad, until, notes)["at"], paper[1])
        self.assertGreater(min(words.values()), 10)


if __name__ == "__main__":
    unittest.main()
