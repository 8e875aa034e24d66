"""BILL PAPERS: what point 59 says of those that are told."""

import random
import unittest

from tenanthall.billpapers import bill_paper
from tenanthall.bills import bills_until, summed
from tests.samples import bent, kept_whole

PRICES = (("room", ((0, 2), (10, 5))), ("steps", ((0, 1), (5, 10), (20, 0))))
NOTES = ((0, "letters", 9), (0, "steps", 3), (1, "steps", 4), (3, "room", 12), (4, "steps", 6), (9, "room", 1))
LINES = ((0, "letters", 9, 0), (0, "steps", 3, 3), (1, "steps", 4, 22), (3, "room", 12, 30), (4, "steps", 6, 15))


def paper_of(lines, until=5, notes=NOTES, prices=PRICES, **more):
    return bill_paper(notes, lines, until, prices=prices, **more)


class Sums(unittest.TestCase):

    def test_lines_that_are_the_bills(self):
        told = kept_whole(self, paper_of, LINES)
        self.assertEqual(told, ("sums", 70))
        self.assertIsInstance(told, tuple)
        for until in range(12):
            lines = bills_until(NOTES, until, prices=PRICES)
            self.assertEqual(paper_of(lines, until), ("sums", sum(line[3] for line in lines)))

    def test_in_any_order_and_in_parts(self):
        self.assertEqual(paper_of(LINES[::-1]), ("sums", 70))
        parts = ((1, "steps", 6, 30), (1, "steps", -2, -8), (7, "room", 1, -4), (7, "room", -1, 4), (8, "room", 0, 0))
        self.assertEqual(paper_of(LINES[:2] + parts + LINES[3:]), ("sums", 70))

    def test_nothing(self):
        self.assertEqual(paper_of((), 0), ("sums", 0))
        self.assertEqual(paper_of((), 10 ** 30, notes=()), ("sums", 0))
        self.assertEqual(paper_of(((3, "room", 1, 5), (3, "room", -1, -5)), 0), ("sums", 0))

    def test_by_prices_and_calendar(self):
        free = tuple(line[:3] + (0,) for line in LINES)
        self.assertEqual(paper_of(free, prices=()), ("sums", 0))
        lines = bills_until(NOTES, 10, prices=PRICES, calendar=(1, 99))
        self.assertEqual(paper_of(lines, 10, calendar=(1, 99)), ("sums", sum(line[3] for line in lines)))
        self.assertEqual(paper_of(lines, 10)[0], "off")


class Off(unittest.TestCase):

    def test_by_units_and_by_coins(self):
        for k, (day, kind, units, coins) in enumerate(LINES):
            for has in ((units + 1, coins), (units, coins - 1), (-units, coins + 7)):
                told = kept_whole(self, paper_of, bent(LINES, (k,), (day, kind) + has))
                self.assertEqual(told, ("off", (day, kind), has, (units, coins)))

    def test_too_few(self):
        for k, (day, kind, units, coins) in enumerate(LINES):
            self.assertEqual(paper_of(LINES[:k] + LINES[k + 1:]), ("off", (day, kind), (0, 0), (units, coins)))
        self.assertEqual(paper_of((), 1), ("off", (0, "letters"), (0, 0), (9, 0)))

    def test_too_many(self):
        for day, kind in ((0, "room"), (2, "steps"), (5, "room"), (9, "room"), (40, "letters")):
            self.assertEqual(paper_of(LINES + ((day, kind, 1, 0),)), ("off", (day, kind), (1, 0), (0, 0)))
            self.assertEqual(paper_of(LINES + ((day, kind, 0, -2),)), ("off", (day, kind), (0, -2), (0, 0)))
        self.assertEqual(paper_of(LINES, 4), ("off", (4, "steps"), (6, 15), (0, 0)))

    def test_at_two_days_and_at_two_kinds(self):
        days = bent(bent(LINES, (2, 3), 21), (4, 2), 5)
        kinds = bent(bent(LINES, (0, 2), 8), (1, 2), 2)
        for lines, places in ((days, [2, 4]), (kinds, [0, 1])):
            told = [("off", lines[k][:2], lines[k][2:], LINES[k][2:]) for k in places]
            self.assertIn(paper_of(lines), told)

    def test_just_one_of_both_words(self):
        chance = random.Random(59)
        words = {"sums": 0, "off": 0}
        for _ in range(400):
            lines = list(LINES)
            for _ in range(chance.randrange(3)):
                day, kind = chance.choice(LINES)[:2]
                lines.append((day, kind, chance.randrange(-1, 2), chance.randrange(-1, 2)))
            told = paper_of(tuple(lines))
            words[told[0]] += 1
            self.assertEqual(told[0] == "sums", summed(tuple(lines)) == LINES)
        self.assertGreater(min(words.values()), 50)

    def test_arguments(self):
        told = bill_paper(calendar=(5, 4), prices=PRICES, until=5, lines=LINES, notes=NOTES)
        self.assertEqual(told, ("sums", 70))
        with self.assertRaises(TypeError):
            bill_paper(NOTES, LINES, 5, PRICES)


if __name__ == "__main__":
    unittest.main()
