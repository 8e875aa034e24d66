"""DAYS, PERIODS and NOTES: point 54, and the CALENDAR."""

import unittest

from tenanthall import days
from tests.samples import kept_whole

NOTES = ((0, "room", 3), (0, "steps", 4), (2, "letters", 1), (2, "steps", 10 ** 6))


class Calendars(unittest.TestCase):

    def test_calendar(self):
        self.assertEqual(days.CALENDAR, (5, 4))
        for thing in ((5, 4), (1, 1), (10 ** 200, 1)):
            self.assertIs(kept_whole(self, days.is_calendar, thing), True)
        for thing in (None, True, 5, "", (), (5,), (5, 4, 3), [5, 4], (0, 4), (5, 0), (-5, 4), (5, -4), (True, 4),
                      (5, True), (None, 4), (5, None), ("5", "4"), ((5, 4),), ((5,), (4,))):
            self.assertIs(days.is_calendar(thing=thing), False, thing)

    def test_days(self):
        self.assertEqual([days.day_of(tick) for tick in range(12)], [0] * 5 + [1] * 5 + [2] * 2)
        self.assertEqual([days.day_of(tick, calendar=(3, 9)) for tick in range(7)], [0, 0, 0, 1, 1, 1, 2])
        self.assertEqual(days.day_of(calendar=(1, 1), tick=10 ** 30), 10 ** 30)

    def test_periods(self):
        self.assertEqual([days.period_of(day) for day in range(9)], [0] * 4 + [1] * 4 + [2])
        self.assertEqual([days.period_of(day, calendar=(9, 2)) for day in range(5)], [0, 0, 1, 1, 2])
        self.assertEqual(days.period_of(calendar=(2, 1), day=7), 7)

    def test_the_calendar_by_name_alone(self):
        for call in (days.day_of, days.period_of):
            with self.assertRaises(TypeError):
                call(7, (5, 4))


class Notes(unittest.TestCase):

    def test_more_of_what_is_noted(self):
        for place, (day, kind, units) in enumerate(NOTES):
            told = kept_whole(self, days.noted, NOTES, day, kind, 5)
            self.assertEqual(told, NOTES[:place] + ((day, kind, units + 5),) + NOTES[place + 1:])
            self.assertEqual(days.noted(units=5, kind=kind, day=day, notes=NOTES), told)
            self.assertIsInstance(told, tuple)

    def test_anew_at_any_place(self):
        for place, note in ((0, (0, "letters", 2)), (2, (0, "steps", 0)), (2, (1, "steps", 1)),
                            (2, (1, "letters", 7)), (3, (2, "room", 7)), (4, (3, "letters", 1))):
            told = days.noted(NOTES, *note)
            if note[2] == 0:
                self.assertEqual(told, NOTES)
            else:
                self.assertEqual(told, NOTES[:place] + (note,) + NOTES[place:])
        self.assertEqual(days.noted((), 4, "room", 2), ((4, "room", 2),))

    def test_nothing_noted(self):
        for notes in ((), NOTES):
            for day in (0, 1, 2, 3):
                for kind in ("letters", "room", "steps"):
                    self.assertEqual(days.noted(notes, day, kind, 0), notes)


if __name__ == "__main__":
    unittest.main()
