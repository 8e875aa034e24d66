"""CORRECTIONS: point 57, and of point 58 that BILLS and their LINES sum to the price."""

import random
import unittest

from tenanthall.bills import bill_of, bills_until, summed
from tenanthall.corrections import corrected, correction_lines, is_correction
from tenanthall.days import noted
from tenanthall.errors import NoHall
from tests.samples import bent, kept_whole, refusal

PRICES = (("room", ((0, 2),)), ("steps", ((0, 1), (5, 10), (20, 0))))

# By the CALENDAR (5, 4) days 0 to 3 are of one PERIOD, 4 to 7 of the next one.
NOTES = ((0, "steps", 3), (1, "letters", 9), (1, "room", 4), (1, "steps", 2), (2, "steps", 4), (3, "steps", 30),
         (4, "steps", 6))


def lines(correction, until, notes=NOTES, **more):
    return kept_whole(unittest.TestCase(), lambda *things: correction_lines(*things, until, prices=PRICES, **more),
                      notes, correction)


class Kinds(unittest.TestCase):

    def test_corrections(self):
        for thing in ((0, "room", 1), (3, "letters", -7), (10 ** 200, "steps", -10 ** 200)):
            self.assertIs(is_correction(thing), True)
            for place, wrong in ((0, (-1, True, None)), (1, ("rooms", None, ["room"])), (2, (0, True, None, "1"))):
                for other in wrong:
                    self.assertIs(is_correction(bent(thing, (place,), other)), False)
        for thing in (None, (), (0, "room"), (0, "room", 1, 1), [0, "room", 1]):
            self.assertIs(is_correction(thing), False)


class Notes(unittest.TestCase):

    def test_more_and_fewer(self):
        for place, (day, kind, units) in enumerate(NOTES):
            for more in (5, 1, -1, -units + 1, 10 ** 30):
                if units + more > 0:
                    told = kept_whole(self, corrected, NOTES, (day, kind, more))
                    self.assertEqual(told, NOTES[:place] + ((day, kind, units + more),) + NOTES[place + 1:])
                    self.assertEqual(corrected(correction=(day, kind, more), notes=NOTES), told)

    def test_just_to_none(self):
        for place, (day, kind, units) in enumerate(NOTES):
            self.assertEqual(corrected(NOTES, (day, kind, -units)), NOTES[:place] + NOTES[place + 1:])

    def test_a_first_unit_of_a_kind_that_day(self):
        self.assertEqual(corrected(NOTES, (0, "room", 1)), ((0, "room", 1),) + NOTES)
        self.assertEqual(corrected(NOTES, (9, "letters", 2)), NOTES + ((9, "letters", 2),))
        self.assertEqual(corrected((), (9, "letters", 2)), ((9, "letters", 2),))

    def test_below_none(self):
        for correction in ((0, "steps", -4), (1, "letters", -10 ** 40), (0, "room", -1), (9, "steps", -1)):
            for told in (refusal(self, NoHall, corrected, NOTES, correction),
                         refusal(self, NoHall, correction_lines, NOTES, correction, 4, prices=PRICES),
                         refusal(self, NoHall, correction_lines, NOTES, correction, 0, prices=PRICES)):
                self.assertEqual(told, {"word": "units", "at": correction[:2]})


class Lines(unittest.TestCase):

    def test_a_day_that_is_not_billed(self):
        for until in (0, 1, 2):
            self.assertEqual(lines((2, "steps", 5), until), ())
        self.assertEqual(lines((9, "steps", 5), 9), ())
        self.assertEqual(lines((9, "room", 5), 10), ((9, "room", 5, 10),))
        self.assertIsInstance(lines((2, "steps", 5), 2), tuple)

    def test_later_days_of_the_period_that_cost_otherwise(self):
        # Steps 0 to 2, 3 and 4, 5 to 8, 9 to 38 were: 3, 2, 40, 110 coins.
        self.assertEqual(lines((0, "steps", 1), 4), ((0, "steps", 1, 1), (1, "steps", 0, 9), (3, "steps", 0, -10)))
        self.assertEqual(lines((0, "steps", -1), 4), ((0, "steps", -1, -1), (2, "steps", 0, -9), (3, "steps", 0, 10)))
        told = kept_whole(self, lambda *things: correction_lines(*things, 4, prices=PRICES), NOTES, (0, "steps", 1))
        self.assertIsInstance(told, tuple)

    def test_only_those_below_until(self):
        whole = ((0, "steps", 1, 1), (1, "steps", 0, 9), (3, "steps", 0, -10))
        for until, many in ((1, 1), (2, 2), (3, 2), (4, 3), (5, 3), (10 ** 30, 3)):
            self.assertEqual(lines((0, "steps", 1), until), whole[:many])

    def test_those_that_dont_cost_otherwise(self):
        # Day 2 costs as much as it did, day 3 doesn't.
        self.assertEqual(lines((1, "steps", 3), 4)[1:], ((3, "steps", 0, -30),))
        self.assertEqual(lines((1, "room", 3), 4), ((1, "room", 3, 6),))
        self.assertEqual(lines((3, "steps", 3), 4), ((3, "steps", 3, 0),))

    def test_kinds_without_a_price(self):
        self.assertEqual(lines((1, "letters", 3), 4), ((1, "letters", 3, 0),))
        self.assertEqual(correction_lines(NOTES, (0, "steps", 1), 4, prices=()), ((0, "steps", 1, 0),))

    def test_the_next_period_is_let_be(self):
        self.assertEqual(lines((3, "steps", -30), 8), ((3, "steps", -30, -110),))
        notes = NOTES[:5] + NOTES[6:]
        self.assertEqual([line[0] for line in lines((0, "steps", 10), 8, notes=notes, calendar=(5, 99))], [0, 1, 4])
        self.assertEqual([line[0] for line in lines((0, "steps", 10), 8, notes=notes)], [0, 1])
        self.assertEqual(lines((0, "steps", 2), 8, calendar=(5, 1)), ((0, "steps", 2, 2),))
        self.assertEqual([line[0] for line in lines((0, "steps", 2), 8, calendar=(1, 2))], [0, 1])

    def test_a_first_unit_of_a_kind_that_day(self):
        self.assertEqual(lines((0, "room", 1), 4), ((0, "room", 1, 2),))
        notes = ((1, "steps", 5), (2, "steps", 1))
        self.assertEqual(lines((0, "steps", 2), 4, notes=notes), ((0, "steps", 2, 2), (1, "steps", 0, 18)))

    def test_just_to_none(self):
        self.assertEqual(lines((0, "steps", -3), 4),
                         ((0, "steps", -3, -3), (2, "steps", 0, -27), (3, "steps", 0, 30)))

    def test_one_more_and_as_many_fewer_come_to_nothing(self):
        for correction in ((0, "steps", 4), (1, "steps", -2), (2, "room", 7), (3, "letters", 1)):
            back = correction[:2] + (-correction[2],)
            both = lines(correction, 5) + lines(back, 5, notes=corrected(NOTES, correction))
            self.assertEqual(summed(both), ())

    def test_arguments(self):
        told = correction_lines(calendar=(5, 4), prices=PRICES, until=1, correction=(0, "steps", 1), notes=NOTES)
        self.assertEqual(told, ((0, "steps", 1, 1),))
        with self.assertRaises(TypeError):
            correction_lines(NOTES, (0, "steps", 1), 1, PRICES)


class Sums(unittest.TestCase):
    """Days billed one behind the other, and CORRECTIONS between, sum to the BILLS by the NOTES at the end (M4)."""

    def some_corrections(self, chance, notes, until, calendar):
        told = []
        for _ in range(chance.randrange(4)):
            correction = (chance.randrange(9), chance.choice(("letters", "room", "steps")), chance.choice((-9, -3, -1, 1, 4, 20)))
            try:
                told.extend(correction_lines(notes, correction, until, prices=PRICES, calendar=calendar))
                notes = corrected(notes, correction)
            except NoHall:
                pass
        return notes, told

    def test_to_the_coin(self):
        chance = random.Random(58)
        turned = 0
        for _ in range(300):
            calendar = chance.choice(((5, 4), (5, 1), (1, 3), (2, 99)))
            notes, told = (), []
            for until in range(9):
                # What isn't billed yet is NOTED as it comes.
                for _ in range(chance.randrange(3)):
                    notes = noted(notes, until, chance.choice(("letters", "room", "steps")), chance.randrange(12))
                told.extend(bill_of(notes, until, prices=PRICES, calendar=calendar))
                notes, more = self.some_corrections(chance, notes, until + 1, calendar)
                told.extend(more)
                turned += any(line[2] == 0 for line in more)
                self.assertEqual(summed(tuple(told)), summed(bills_until(notes, until + 1, prices=PRICES, calendar=calendar)))
        self.assertGreater(turned, 50)


if __name__ == "__main__":
    unittest.main()
