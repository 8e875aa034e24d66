"""TOKENS: points 24 and 25."""

import unittest
from fractions import Fraction

from tenanthall import tokens
from tests.samples import bent, kept_whole

HUGE = 10 ** 190 + 7
SOME = ((0, 1), (1, 1), (1, 2), (2, 3), (7, 5), (4, 1), (999, 1000), (HUGE, 3), (3, HUGE))
SHARES = (((0, 1), 1), ((1, 1), 1), ((1, 2), 1), ((2, 3), 2), ((7, 5), 3), ((5, 1), 2), ((17, 5), 10), ((3, 7), 10 ** 6))


def fraction(told):
    return Fraction(told[0], told[1])


def pair(number):
    return number.numerator, number.denominator


class Checkers(unittest.TestCase):

    def test_fractions(self):
        for thing in SOME + ((10 ** 200, 3), (1, 10 ** 200)):
            self.assertIs(kept_whole(self, tokens.is_fraction, thing), True)
        for thing in (None, True, 1, "", (), (1,), (1, 2, 3), [1, 2], (0, 0), (1, 0), (0, 2), (2, 2), (2, 4), (6, 4),
                      (-1, 2), (1, -2), (True, 2), (1, True), (0, True), (None, 1), (1, None), ("1", "2"),
                      ((1, 2), 3), ([1], [2])):
            self.assertIs(tokens.is_fraction(thing=thing), False, thing)

    def test_shares(self):
        for thing in SHARES + (((0, 1), 10 ** 200),):
            self.assertIs(kept_whole(self, tokens.is_share, thing), True)
        share = ((1, 2), 4)
        for thing in (None, True, 4, "", (), share[:1], share + (1,), list(share), (1, 2, 4), ([1, 2], 4)):
            self.assertIs(tokens.is_share(thing=thing), False, thing)
        for other in ((2, 4), (0, 2), (1, 0), (True, 2), None, 1):
            self.assertIs(tokens.is_share(bent(share, (0,), other)), False)
        for other in (0, -1, True, None, "4", (4,), (4, 1)):
            self.assertIs(tokens.is_share(bent(share, (1,), other)), False)

    def test_nought(self):
        self.assertEqual(tokens.NOUGHT, (0, 1))


class Sums(unittest.TestCase):

    def test_ratio(self):
        for over, under in ((0, 1), (0, 7), (0, HUGE), (6, 4), (4, 6), (7, 7), (5, 1), (HUGE * 6, HUGE * 4), (1, HUGE)):
            told = kept_whole(self, tokens.ratio, over, under)
            self.assertEqual(told, pair(Fraction(over, under)))
            self.assertTrue(tokens.is_fraction(told))
            self.assertEqual(tokens.ratio(under=under, over=over), told)

    def test_two_fractions(self):
        for one in SOME:
            for other in SOME:
                first, second = fraction(one), fraction(other)
                self.assertEqual(kept_whole(self, tokens.added, one, other), pair(first + second))
                self.assertEqual(kept_whole(self, tokens.lesser, one, other), pair(min(first, second)))
                self.assertIs(kept_whole(self, tokens.is_less, one, other), first < second)
                for told in (tokens.added(other=other, one=one), tokens.lesser(other=other, one=one)):
                    self.assertTrue(tokens.is_fraction(told))
                self.assertIs(tokens.is_less(other=one, one=other), second < first)

    def test_wholes(self):
        for told, many in (((0, 1), 0), ((1, 2), 0), ((2, 1), 2), ((7, 5), 1), ((9, 5), 1), ((10 ** 200 + 1, 10), 10 ** 199)):
            self.assertEqual(kept_whole(self, tokens.wholes, told), many)
            self.assertEqual(tokens.wholes(fraction=told), many)


class Shares(unittest.TestCase):

    def test_grown(self):
        for share in SHARES:
            for had in SOME:
                told = kept_whole(self, tokens.grown, had, share)
                self.assertEqual(told, pair(min(fraction(had) + fraction(share[0]), share[1])))
                self.assertTrue(tokens.is_fraction(told))
                self.assertEqual(tokens.grown(share=share, tokens=had), told)

    def test_most_of_less_than_what_grows(self):
        self.assertEqual(tokens.grown((0, 1), ((5, 1), 2)), (2, 1))
        self.assertEqual(tokens.grown((1, 2), ((7, 3), 1)), (1, 1))
        self.assertEqual(tokens.pace_of(((5, 1), 2), 3), (2, 2, 2))

    def test_paid(self):
        for had in SOME:
            for cost in (0, 1, 2, 3, 10 ** 9, 10 ** 200):
                told = kept_whole(self, tokens.paid, had, cost)
                many = min(had[0] // had[1], cost)
                self.assertEqual(told, (pair(fraction(had) - many), many))
                self.assertTrue(tokens.is_fraction(told[0]))
                self.assertEqual(tokens.paid(cost=cost, tokens=had), told)

    def test_costs_of_nothing_and_of_all(self):
        self.assertEqual(tokens.paid((7, 2), 0), ((7, 2), 0))
        self.assertEqual(tokens.paid((4, 1), 4), ((0, 1), 4))
        self.assertEqual(tokens.paid((7, 2), 9), ((1, 2), 3))


class Paces(unittest.TestCase):

    def test_some_paces(self):
        self.assertEqual(kept_whole(self, tokens.pace_of, ((1, 2), 4), 6), (0, 1, 0, 1, 0, 1))
        self.assertEqual(tokens.pace_of(((7, 5), 3), 5), (1, 1, 2, 1, 2))
        self.assertEqual(tokens.pace_of(((0, 1), 3), 3), (0, 0, 0))
        self.assertEqual(tokens.pace_of(((1, 2), 4), 0), ())
        self.assertEqual(tokens.pace_of(ticks=2, share=((1, 2), 4), tokens=(1, 2)), (1, 0))
        self.assertEqual(tokens.pace_of(((1, 1), 9), 2, tokens=(5, 1)), (6, 1))
        self.assertIsInstance(tokens.pace_of(((1, 1), 1), 1), tuple)

    def test_tokens_by_name_alone(self):
        with self.assertRaises(TypeError):
            tokens.pace_of(((1, 2), 4), 2, (1, 2))

    def test_a_share_of_room_enough_gives_all_its_wholes(self):
        for over, under in ((1, 2), (2, 3), (7, 5), (3, 1), (99, 100)):
            share = ((over, under), over // under + 2)
            for had in ((0, 1), (1, 2), (6, 7)):
                pace = tokens.pace_of(share, 30, tokens=had)
                for k in range(31):
                    self.assertEqual(sum(pace[:k]), int(fraction(had) + k * Fraction(over, under)))


if __name__ == "__main__":
    unittest.main()
