"""PRICES and COST: point 55."""

import unittest

from tenanthall.prices import cost, is_prices
from tests.samples import bent, kept_whole

TIERS = ((0, 3), (4, 7), (10, 1), (11, 20))
PRICES = (("letters", ((0, 0),)), ("room", ((0, 2), (10, 5))), ("steps", TIERS))


def unit_by_unit(tiers, units, ahead):
    return sum([coins for start, coins in tiers if start <= number][-1] for number in range(ahead, ahead + units))


class Prices(unittest.TestCase):

    def test_there(self):
        for thing in ((), PRICES, PRICES[1:], PRICES[::2], (("room", ((0, 10 ** 200), (10 ** 200, 0))),)):
            self.assertIs(kept_whole(self, is_prices, thing), True)
        for many in (1, 2, 3, 4):
            self.assertIs(is_prices((("steps", TIERS[:many]),)), True)

    def test_of_no_shape(self):
        for thing in (None, True, 0, "", "room", [], list(PRICES), dict(PRICES), PRICES[0], ("room", TIERS), ((),),
                      (("room",),), (("room", TIERS, 1),), (["room", TIERS],), (("room", list(TIERS)),)):
            self.assertIs(is_prices(thing=thing), False, thing)

    def test_kinds(self):
        for wrong in ("", "step", "Room", "rooms", None, True, 0, ("room",), ["room"]):
            self.assertIs(is_prices(((wrong, TIERS),)), False)

    def test_kinds_rise_and_none_is_there_twice(self):
        for thing in (PRICES[::-1], PRICES[:2] + PRICES[1:], (("steps", TIERS), ("room", TIERS)),
                      (("room", ((0, 1),)), ("room", ((0, 2),)))):
            self.assertIs(is_prices(thing), False)

    def test_one_to_four_tiers(self):
        self.assertIs(is_prices((("room", ()),)), False)
        self.assertIs(is_prices((("room", TIERS + ((12, 1),)),)), False)

    def test_tiers_bent(self):
        for place in range(4):
            for wrong in (None, True, 0, (), (0,), (0, 1, 2), [0, 1], "01"):
                self.assertIs(is_prices((("room", bent(TIERS, (place,), wrong)),)), False, wrong)
            for wrong in (None, True, -1, "0", (0,)):
                self.assertIs(is_prices((("room", bent(TIERS, (place, 1), wrong)),)), False)
                self.assertIs(is_prices((("room", bent(TIERS, (place, 0), wrong)),)), False)
        self.assertIs(is_prices((("room", ((False, 1),)),)), False)

    def test_froms_from_0_on_each_greater(self):
        for tiers in (((1, 3),), ((1, 3), (4, 7)), ((0, 3), (0, 7)), ((0, 3), (4, 7), (4, 7)), ((0, 3), (5, 1), (4, 1))):
            self.assertIs(is_prices((("room", tiers),)), False, tiers)
        self.assertIs(is_prices((("room", ((0, 7), (1, 7), (2, 7))),)), True)


class Costs(unittest.TestCase):

    def test_unit_by_unit(self):
        for many in (1, 2, 3, 4):
            for ahead in range(14):
                for units in range(16):
                    told = kept_whole(self, lambda tiers: cost(tiers, units, ahead=ahead), TIERS[:many])
                    self.assertEqual(told, unit_by_unit(TIERS[:many], units, ahead), (many, units, ahead))

    def test_within_one_tier_at_its_edge_and_over_several(self):
        self.assertEqual(cost(TIERS, 4), 12)
        self.assertEqual(cost(TIERS, 5), 19)
        self.assertEqual(cost(TIERS, 2, ahead=2), 6)
        self.assertEqual(cost(TIERS, 1, ahead=4), 7)
        self.assertEqual(cost(TIERS, 2, ahead=9), 8)
        self.assertEqual(cost(TIERS, 9, ahead=3), 3 + 6 * 7 + 1 + 20)
        self.assertEqual(cost(TIERS, 3, ahead=500), 60)

    def test_nothing(self):
        for ahead in (0, 4, 10 ** 6):
            self.assertEqual(cost(TIERS, 0, ahead=ahead), 0)
        self.assertEqual(cost(((0, 0),), 10 ** 6), 0)

    def test_many_units(self):
        million = 10 ** 6
        self.assertEqual(cost(TIERS, million), 12 + 42 + 1 + 20 * (million - 11))
        self.assertEqual(cost(((0, 1), (million, 2)), million, ahead=million - 1), 1 + 2 * (million - 1))
        self.assertEqual(cost(((0, 5),), 10 ** 40, ahead=10 ** 50), 5 * 10 ** 40)

    def test_arguments(self):
        self.assertEqual(cost(ahead=3, units=2, tiers=TIERS), 10)
        with self.assertRaises(TypeError):
            cost(TIERS, 2, 3)


if __name__ == "__main__":
    unittest.main()
