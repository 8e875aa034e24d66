"""HOUSES: point 30, by the SHARES of points 3 and 24."""

import unittest

from tenanthall.errors import NoHall, NoTenant
from tenanthall.houses import admitted, is_house, left
from tests.samples import bent, kept_whole, refusal

HALF = ((1, 2), 4)
ONE = ((1, 1), 3)
HOUSE = ("eu", 9, (("ann", HALF), ("cy", ONE)))
FULL = ("eu", 9, (("ann", HALF), ("bob", ((0, 1), 2)), ("cy", ONE)))


class Kinds(unittest.TestCase):

    def test_there(self):
        for thing in (HOUSE, FULL, ("eu", 0, ()), ("abcdefgh", 10 ** 200, (("a", ((7, 5), 10 ** 199)),)),
                      ("eu", 7, HOUSE[2])):
            self.assertIs(kept_whole(self, is_house, thing), True)

    def test_of_no_shape(self):
        for thing in (None, True, 9, "", "eu", (), HOUSE[:2], HOUSE + (1,), list(HOUSE), ("eu", 9, None),
                      ("eu", 9, list(HOUSE[2])), ("eu", 9, dict(HOUSE[2])), ("eu", 9, HOUSE[2][0])):
            self.assertIs(is_house(thing=thing), False, thing)

    def test_bent_at_each_place(self):
        for wrong in ("", "Eu", "nine letters", None, 1, True, ["eu"]):
            self.assertIs(is_house(bent(HOUSE, (0,), wrong)), False)
        for wrong in (True, -1, None, "9", (9,)):
            self.assertIs(is_house(bent(HOUSE, (1,), wrong)), False)
        self.assertIs(is_house(("eu", True, ())), False)
        self.assertIs(is_house(("eu", True, (("ann", ((1, 1), 1)),))), False)
        for wrong in (None, True, "ann", (), ("ann",), ("ann", HALF, HALF), ["ann", HALF]):
            self.assertIs(is_house(bent(HOUSE, (2, 0), wrong)), False)
        for wrong in (None, True, 7, "", "Ann", "nine letters", ["ann"]):
            self.assertIs(is_house(bent(HOUSE, (2, 0, 0), wrong)), False)
        for wrong in (None, True, 4, (), (1, 2, 4), ((1, 2), 0), ((1, 2), True), ((2, 4), 4), ((1, 0), 4),
                      ((1, 2),), [(1, 2), 4], ([1, 2], 4), ((1, 2), -4), ((-1, 2), 4), ((1, 2), 4, 4)):
            self.assertIs(is_house(bent(HOUSE, (2, 0, 1), wrong)), False, wrong)

    def test_just_full_and_one_over(self):
        self.assertIs(is_house(("eu", 7, HOUSE[2])), True)
        self.assertIs(is_house(("eu", 6, HOUSE[2])), False)
        self.assertIs(is_house(("eu", 0, (("ann", ((0, 1), 1)),))), False)

    def test_guests_rise_and_none_is_there_twice(self):
        ann, cy = HOUSE[2]
        for guests in ((cy, ann), (ann, ann), (ann, ("ann", ONE)), (("ann", ONE), ann), (ann, cy, ann)):
            self.assertIs(is_house(("eu", 99, guests)), False)


class Guests(unittest.TestCase):

    def test_one_more_at_any_place(self):
        for name, guests in (("abe", (("abe", ONE),) + HOUSE[2]), ("bob", HOUSE[2][:1] + (("bob", ONE),) + HOUSE[2][1:]),
                             ("dan", HOUSE[2] + (("dan", ONE),))):
            told = kept_whole(self, admitted, ("eu", 10) + HOUSE[2:], name, ONE)
            self.assertEqual(told, ("eu", 10, tuple(sorted(guests))))
            self.assertIs(is_house(told), True)
        self.assertEqual(admitted(share=((0, 1), 2), name="bob", house=HOUSE), FULL)
        self.assertEqual(admitted(("us", 3, ()), "ann", ONE), ("us", 3, (("ann", ONE),)))

    def refused(self, house, name, share):
        fields = refusal(self, NoHall, admitted, house, name, share)
        return fields["word"], fields["at"]

    def test_no_room(self):
        for most, more in ((3, 1), (4, 2), (10 ** 100, 10 ** 100 - 2)):
            self.assertEqual(self.refused(HOUSE, "bob", ((1, 1), most)), ("room", more))
        self.assertEqual(self.refused(FULL, "dan", ((0, 1), 1)), ("room", 1))
        self.assertEqual(self.refused(("eu", 0, ()), "dan", ((0, 1), 5)), ("room", 5))
        self.assertEqual(admitted(HOUSE, "bob", ((99, 1), 2))[2][1], ("bob", ((99, 1), 2)))

    def test_there_already(self):
        self.assertEqual(self.refused(HOUSE, "ann", ((0, 1), 1)), ("there", "ann"))
        self.assertEqual(self.refused(FULL, "cy", ONE), ("there", "cy"))

    def test_there_goes_ahead_of_no_room(self):
        self.assertEqual(self.refused(FULL, "ann", ((1, 1), 99)), ("there", "ann"))

    def test_without_a_guest(self):
        self.assertEqual(kept_whole(self, left, HOUSE, "ann"), ("eu", 9, HOUSE[2][1:]))
        self.assertEqual(left(name="cy", house=HOUSE), ("eu", 9, HOUSE[2][:1]))
        self.assertEqual(left(left(HOUSE, "ann"), "cy"), ("eu", 9, ()))
        self.assertEqual(admitted(left(FULL, "bob"), "bob", ((0, 1), 2)), FULL)

    def test_any_thing_as_the_name_that_goes(self):
        for name in ("bob", "an", "annn", "", "Ann", None, True, 0, ("ann",), ["ann"], ("ann", HALF), HOUSE[2][0], [[]]):
            fields = refusal(self, NoTenant, left, HOUSE, name)
            self.assertIs(fields["name"], name)
        self.assertEqual(refusal(self, NoTenant, left, ("eu", 9, ()), "ann"), {"name": "ann"})


if __name__ == "__main__":
    unittest.main()
