"""BILLS: points 56 and 58."""

import random
import unittest

from tenanthall.bills import bill_of, bills_until, summed
from tests.samples import kept_whole

PRICES = (("room", ((0, 2), (10, 5))), ("steps", ((0, 1), (5, 10), (20, 0))))

# By the CALENDAR (5, 4) days 0 to 3 are of one PERIOD, 4 to 7 of the next one.
NOTES = ((0, "letters", 9), (0, "steps", 3), (1, "steps", 4), (3, "room", 12), (3, "steps", 30), (4, "room", 4),
         (4, "steps", 6), (6, "steps", 1), (9, "letters", 2))
LINES = ((0, "letters", 9, 0), (0, "steps", 3, 3), (1, "steps", 4, 2 + 20), (3, "room", 12, 30),
         (3, "steps", 30, 130), (4, "room", 4, 8), (4, "steps", 6, 15), (6, "steps", 1, 10), (9, "letters", 2, 0))


class Days(unittest.TestCase):

    def test_each_day(self):
        for day in range(12):
            told = kept_whole(self, lambda notes, prices: bill_of(notes, day, prices=prices), NOTES, PRICES)
            self.assertEqual(told, tuple(line for line in LINES if line[0] == day))
            self.assertIsInstance(told, tuple)

    def test_ahead_in_the_period_and_ahead_of_it(self):
        notes = ((2, "steps", 5), (3, "steps", 1), (4, "steps", 5), (7, "steps", 2))
        self.assertEqual(bill_of(notes, 3, prices=PRICES), ((3, "steps", 1, 10),))
        self.assertEqual(bill_of(notes, 4, prices=PRICES), ((4, "steps", 5, 5),))
        self.assertEqual(bill_of(notes, 7, prices=PRICES), ((7, "steps", 2, 20),))
        self.assertEqual(bill_of(notes, 3, prices=PRICES, calendar=(5, 3)), ((3, "steps", 1, 1),))
        self.assertEqual(bill_of(notes, 4, prices=PRICES, calendar=(1, 100)), ((4, "steps", 5, 50),))
        self.assertEqual(bill_of(notes, 7, prices=PRICES, calendar=(9, 1)), ((7, "steps", 2, 2),))

    def test_days_behind_and_other_kinds_turn_nothing(self):
        notes = ((1, "letters", 50), (1, "room", 50), (2, "steps", 4), (3, "steps", 100))
        self.assertEqual(bill_of(notes, 2, prices=PRICES), ((2, "steps", 4, 4),))

    def test_kinds_without_a_price(self):
        self.assertEqual(bill_of(NOTES, 0, prices=()), ((0, "letters", 9, 0), (0, "steps", 3, 0)))
        self.assertEqual(bill_of(NOTES, 3, prices=PRICES[1:]), ((3, "room", 12, 0), (3, "steps", 30, 130)))

    def test_as_kinds_rise(self):
        notes = tuple((5, kind, 1) for kind in ("letters", "room", "steps"))
        self.assertEqual([line[1] for line in bill_of(notes, 5, prices=PRICES)], ["letters", "room", "steps"])

    def test_many_units(self):
        notes = ((0, "room", 10 ** 6), (1, "room", 10 ** 6))
        self.assertEqual(bill_of(notes, 0, prices=PRICES), ((0, "room", 10 ** 6, 20 + 5 * (10 ** 6 - 10)),))
        self.assertEqual(bill_of(notes, 1, prices=PRICES), ((1, "room", 10 ** 6, 5 * 10 ** 6),))

    def test_arguments(self):
        self.assertEqual(bill_of(calendar=(5, 4), prices=PRICES, day=1, notes=NOTES), LINES[2:3])
        self.assertEqual(bill_of((), 0, prices=PRICES), ())
        with self.assertRaises(TypeError):
            bill_of(NOTES, 1, PRICES)


class Until(unittest.TestCase):

    def test_all_days_below(self):
        for until in (0, 1, 3, 4, 5, 9, 10, 10 ** 40):
            told = kept_whole(self, lambda notes, prices: bills_until(notes, until, prices=prices), NOTES, PRICES)
            self.assertEqual(told, tuple(line for line in LINES if line[0] < until))
            self.assertIsInstance(told, tuple)

    def test_day_by_day(self):
        for calendar in ((5, 4), (1, 1), (3, 2), (2, 100)):
            days = [bill_of(NOTES, day, prices=PRICES, calendar=calendar) for day in range(11)]
            self.assertEqual(bills_until(NOTES, 11, prices=PRICES, calendar=calendar), sum(days, ()))

    def test_in_order_whatever_the_days(self):
        days = (1, 7, 8, 16, 31, 32, 1000, 10 ** 6)
        told = bills_until(tuple((day, "room", 1) for day in days), 10 ** 7, prices=PRICES)
        self.assertEqual(told, tuple((day, "room", 1, 2) for day in days))

    def test_arguments(self):
        self.assertEqual(bills_until(calendar=(5, 4), prices=PRICES, until=1, notes=NOTES), LINES[:2])
        self.assertEqual(bills_until((), 9, prices=PRICES), ())
        with self.assertRaises(TypeError):
            bills_until(NOTES, 1, PRICES)

    def test_a_period_sums_to_its_price(self):
        # Tiers are cumulated: all days of a PERIOD cost what their units cost in one.
        for kind in ("room", "steps"):
            notes = tuple(note for note in NOTES if note[1] == kind and note[0] < 4)
            at_once = ((0, kind, sum(note[2] for note in notes)),)
            self.assertEqual(sum(line[3] for line in bills_until(notes, 4, prices=PRICES)),
                             bill_of(at_once, 0, prices=PRICES)[0][3])


class Summed(unittest.TestCase):

    def test_added_by_day_and_kind(self):
        lines = ((3, "steps", 2, 5), (0, "room", 1, 1), (3, "room", 4, 4), (3, "steps", -1, 7), (0, "room", 0, -3))
        told = kept_whole(self, summed, lines)
        self.assertEqual(told, ((0, "room", 1, -2), (3, "room", 4, 4), (3, "steps", 1, 12)))
        self.assertIsInstance(told, tuple)
        self.assertEqual(summed(lines=lines), told)

    def test_left_out_where_both_come_to_nothing(self):
        self.assertEqual(summed(((1, "room", 2, 5), (1, "room", -2, -5), (2, "room", 0, 0))), ())
        self.assertEqual(summed(((1, "room", 2, 5), (1, "room", -2, 5))), ((1, "room", 0, 10),))
        self.assertEqual(summed(((1, "room", 2, 5), (1, "room", 2, -5))), ((1, "room", 4, 0),))
        self.assertEqual(summed(((1, "room", -2, -5),)), ((1, "room", -2, -5),))
        self.assertEqual(summed(()), ())

    def test_bills_are_summed_already(self):
        self.assertEqual(summed(LINES), LINES)
        self.assertEqual(summed(LINES[::-1]), LINES)
        self.assertEqual(summed(LINES + LINES), tuple((day, kind, 2 * units, 2 * coins) for day, kind, units, coins in LINES))

    def test_in_any_order(self):
        chance = random.Random(58)
        for _ in range(100):
            lines = [(chance.randrange(3), chance.choice(("letters", "room", "steps")), chance.randrange(-2, 3),
                      chance.randrange(-2, 3)) for _ in range(chance.randrange(12))]
            told = summed(tuple(lines))
            chance.shuffle(lines)
            self.assertEqual(summed(tuple(lines)), told)
            self.assertEqual(summed(told), told)
            self.assertEqual(list(told), sorted(told))


if __name__ == "__main__":
    unittest.main()
