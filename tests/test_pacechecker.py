"""The checker of PACE PAPERS: point 34, by the TOKENS of points 24 and 25."""

import random
import unittest
from fractions import Fraction

from tenanthall.errors import NoPaper
from tenanthall.pacechecker import lets_pace
from tenanthall.pacepapers import givens_of
from tenanthall.tokens import pace_of
from tests.samples import bent, kept_whole, refusal

# ann has 1/2, 1, 3/2, .. and 4 at most; bob 7/5, 14/5, 3 at most.
ANN, BOB = ((1, 2), 4), ((7, 5), 3)
HOUSE = ("eu", 9, (("ann", ANN), ("bob", BOB), ("cy", ((0, 1), 2))))
PAPER = ((0, "bob", 1), (1, "ann", 1), (1, "bob", 1), (3, "ann", 1), (9, "bob", 2), (9, "bob", 1))


def lets(house, thing, ticks):
    """What the checker does by its words, tick by tick: how many STEPS, or the refusal's fields."""
    shares = dict(house[2])
    tokens = {name: Fraction(0) for name in shares}
    now = -1
    for k, (tick, name, many) in enumerate(thing):
        if tick < max(now, 0) or tick >= ticks:
            return "tick", k
        if name not in shares:
            return "name", k
        while now < tick:
            now += 1
            for guest, ((over, under), most) in shares.items():
                tokens[guest] = min(tokens[guest] + Fraction(over, under), Fraction(most))
        if many > int(tokens[name]):
            return "tokens", k
        tokens[name] -= many
    return sum(row[2] for row in thing)


class LetBy(unittest.TestCase):

    def test_told(self):
        told = kept_whole(self, lambda house, thing: lets_pace(house, thing, ticks=10), HOUSE, PAPER)
        self.assertEqual(told, 7)
        self.assertEqual(lets_pace(ticks=10, thing=PAPER, house=HOUSE), 7)
        self.assertEqual(lets_pace(HOUSE, (), ticks=0), 0)
        self.assertEqual(lets_pace(("eu", 0, ()), (), ticks=9), 0)

    def test_as_many_as_there_are_and_one_more(self):
        for tick, many in ((1, 1), (2, 1), (3, 2), (5, 3), (7, 4)):
            self.assertEqual(lets_pace(HOUSE, ((tick, "ann", many),), ticks=99), many)
            self.refused(((tick, "ann", many + 1),), "tokens", 0)
        self.refused(((0, "ann", 1),), "tokens", 0)

    def test_tokens_at_their_most(self):
        for tick in (8, 20, 10 ** 150):
            for paper in (((tick, "ann", 4),), ((tick, "ann", 1), (tick, "ann", 3))):
                self.assertEqual(lets_pace(HOUSE, paper, ticks=10 ** 151), 4)
            self.refused(((tick, "ann", 5),), "tokens", 0)
            self.refused(((tick, "ann", 4), (tick, "ann", 1)), "tokens", 1)
        # What is above the most is lost: 3 at tick 2, 2 then, 17/5 at tick 3, but for the most.
        self.assertEqual(lets_pace(HOUSE, ((2, "bob", 1), (3, "bob", 3)), ticks=4), 4)
        self.refused(((2, "bob", 1), (3, "bob", 4)), "tokens", 1)
        self.refused(((5, "bob", 3), (6, "bob", 2)), "tokens", 1)

    def test_a_most_of_less_than_what_grows(self):
        house = ("eu", 2, (("ann", ((5, 1), 2)),))
        self.assertEqual(lets_pace(house, ((0, "ann", 2), (1, "ann", 2)), ticks=2), 4)
        self.refused(((0, "ann", 3),), "tokens", 0, house=house)

    def test_rows_of_one_tick(self):
        self.assertEqual(lets_pace(HOUSE, ((3, "bob", 1), (3, "ann", 1), (3, "bob", 2), (3, "ann", 1)), ticks=4), 5)
        self.refused(((3, "bob", 1), (3, "ann", 1), (3, "bob", 3)), "tokens", 2)
        self.refused(((3, "ann", 2), (3, "ann", 1)), "tokens", 1)

    def test_a_guest_that_is_given_nothing_ever(self):
        self.refused(((9, "cy", 1),), "tokens", 0)

    def test_as_told_tick_by_tick(self):
        chance = random.Random(34)
        let_by = 0
        for _ in range(3000):
            ticks = chance.randrange(1, 9)
            rows = [(chance.randrange(8), chance.choice(("ann", "bob", "bob", "cy", "dan")), chance.choice((1, 1, 2, 3)))
                    for _ in range(chance.randrange(6))]
            if chance.random() < 0.9:
                rows.sort(key=lambda row: row[0])
            expected = lets(HOUSE, tuple(rows), ticks)
            if isinstance(expected, int):
                let_by += 1
                self.assertEqual(lets_pace(HOUSE, tuple(rows), ticks=ticks), expected)
                self.assertEqual(sum(sum(givens_of(tuple(rows), name, ticks=ticks)) for name in ("ann", "bob")), expected)
            else:
                self.refused(tuple(rows), *expected, ticks=ticks)
        self.assertGreater(let_by, 300)

    def test_the_pace_is_let_by_and_given(self):
        paper = []
        paces = {name: pace_of(share, 30) for name, share in HOUSE[2]}
        for tick in range(30):
            paper.extend((tick, name, paces[name][tick]) for name in ("bob", "ann") if paces[name][tick] > 0)
        self.assertEqual(lets_pace(HOUSE, tuple(paper), ticks=30), sum(sum(pace) for pace in paces.values()))
        for name, pace in paces.items():
            self.assertEqual(givens_of(tuple(paper), name, ticks=30), pace)
        for k, (tick, name, many) in enumerate(paper):
            self.refused(tuple(paper[:k]) + ((tick, name, many + 1),) + tuple(paper[k + 1:]), "tokens", k)

    def refused(self, thing, word, at, house=HOUSE, ticks=10 ** 151):
        fields = refusal(self, NoPaper, lets_pace, house, thing, ticks=ticks)
        self.assertEqual((fields["word"], fields["at"]), (word, at), thing)


class Refused(unittest.TestCase):

    def refused(self, thing, ticks=10):
        fields = refusal(self, NoPaper, lets_pace, HOUSE, thing, ticks=ticks)
        return fields["word"], fields["at"]

    def test_shape(self):
        for thing in (None, True, 1, "", [], list(PAPER), PAPER[0], PAPER + (None,), ((),), ((0, "bob"),),
                      ((0, "bob", 1, 1),), ([0, "bob", 1],), ("bob",)):
            self.assertEqual(self.refused(thing), ("shape", -1), thing)
        for place in (0, 3, 5):
            for wrong in (True, -1, None, "0", (0,), [0]):
                self.assertEqual(self.refused(bent(PAPER, (place, 0), wrong)), ("shape", -1))
            for wrong in ("", "Bob", "nine letters", None, 1, ["bob"]):
                self.assertEqual(self.refused(bent(PAPER, (place, 1), wrong)), ("shape", -1))
            for wrong in (0, True, -1, None, "1", (1,)):
                self.assertEqual(self.refused(bent(PAPER, (place, 2), wrong)), ("shape", -1))

    def test_tick(self):
        self.assertEqual(self.refused(PAPER, 9), ("tick", 4))
        self.assertEqual(self.refused(PAPER, 0), ("tick", 0))
        self.assertEqual(self.refused(((3, "ann", 1), (2, "bob", 1))), ("tick", 1))
        self.assertEqual(self.refused(((0, "bob", 1), (10, "bob", 1))), ("tick", 1))

    def test_name(self):
        self.assertEqual(self.refused(((1, "ann", 1), (1, "dan", 1))), ("name", 1))
        self.assertEqual(self.refused(((1, "eu", 1),)), ("name", 0))

    def test_the_first_that_is_due(self):
        self.assertEqual(self.refused(((99, "dan", 99), (0, "dan", 0))), ("shape", -1))
        self.assertEqual(self.refused(((10, "dan", 99),)), ("tick", 0))
        self.assertEqual(self.refused(((0, "dan", 99),)), ("name", 0))
        self.assertEqual(self.refused(((0, "bob", 1), (0, "bob", 1), (99, "dan", 1))), ("tokens", 1))
        self.assertEqual(self.refused(((0, "dan", 1), (99, "bob", 1))), ("name", 0))
        self.assertEqual(self.refused(((3, "bob", 1), (1, "dan", 9))), ("tick", 1))

    def test_ticks_by_name_alone(self):
        with self.assertRaises(TypeError):
            lets_pace(HOUSE, PAPER, 10)


if __name__ == "__main__":
    unittest.main()
