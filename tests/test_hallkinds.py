"""STEPS by kind: points 70 to 72."""

import unittest

from tenanthall.hallkinds import is_step
from tests.samples import JOBS, RULES, bent, kept_whole

SHARE = ((1, 2), 4)
PRICES = (("room", ((0, 2), (10, 5))), ("steps", ((0, 3),)))
NO_WORDS = ("", "Ann", "nine letters", "a b", "ann1", None, True, 0, ["ann"], ("ann",))
NO_NUMBERS = (True, False, -1, None, "4", (4,), [4])

# Each STEP with what can't stand at a place in it.
STEPS = (
    (("house", "h", "eu", 9), {1: NO_WORDS, 2: NO_WORDS, 3: NO_NUMBERS}),
    (("open", "ann", "h", SHARE), {1: NO_WORDS, 2: NO_WORDS, 3: (
        None, True, 4, (), SHARE[:1], SHARE + (1,), list(SHARE), ((2, 4), 4), ((1, 0), 4), ((1, 2), 0), ((1, 2), True),
        ((1, 2), -4), ((True, 2), 4), (1, 2, 4))}),
    (("rule", ("kept", "eu", 4)), {1: (
        None, True, "stay", (), ("stay",), ("stay", "eu", 1), ("kept", "eu"), ("kept", "eu", 0), ("kept", "eu", True),
        ("gone", "eu"), ("told", "Eu"), ["stay", "eu"], (("stay", "eu"),), (["stay"], "eu"))}),
    (("price", PRICES), {1: (
        None, True, 0, PRICES[::-1], PRICES + PRICES[1:], list(PRICES), PRICES[0], (("room", ()),), (("rooms", ((0, 2),)),),
        (("room", ((1, 2),)),), (("room", ((0, True),)),))}),
    (("move", "ann", "h"), {1: NO_WORDS, 2: NO_WORDS}),
    (("break", "ann"), {1: NO_WORDS}),
    (("fall", "h"), {1: NO_WORDS}),
    (("save", "ann"), {1: NO_WORDS}),
    (("restore", "ann"), {1: NO_WORDS}),
    (("export", "ann"), {1: NO_WORDS}),
    (("import", "ann", "table emp 0 -"), {1: NO_WORDS, 2: (None, True, 0, (), ("table emp 0 -",), ["a"])}),
    (("correct", "ann", (3, "steps", -2)), {1: NO_WORDS, 2: (
        None, True, (), (3, "steps"), (3, "steps", -2, 1), [3, "steps", -2], (3, "steps", 0), (3, "steps", True),
        (3, "steps", None), (-1, "steps", 2), (True, "steps", 2), (None, "steps", 2), (3, "step", 2), (3, None, 2),
        (3, ["steps"], 2), ("steps", 3, 2), (3, "steps", "2"))}),
    (("job", "ann", ("get", "emp", 3)), {1: NO_WORDS, 2: (
        None, True, "get", (), ("get", "emp"), ("get", "emp", True), ("get", "emp", -3), ("get", "emp", 3, 0),
        ["get", "emp", 3], (["get"], "emp", 3), ("stay", "eu"), ("count", "emp", None), ("tick", ()))}),
    (("tick", (("bob", 3), ("ann", 0))), {1: (
        None, True, 3, "ann", [("ann", 3)], ("ann", 3), ((),), (("ann",),), (("ann", 3, 3),), (["ann", 3],), (("ann", None),),
        (("ann", -1),), (("ann", True),), (("ann", "3"),), (("Ann", 3),), ((None, 3),), ((["ann"], 3),), (("ann", 3), None))}),
)


class Steps(unittest.TestCase):

    def test_each_step(self):
        for step, _ in STEPS:
            self.assertIs(kept_whole(self, is_step, step), True)
            self.assertIs(is_step(thing=step), True)

    def test_bent_at_each_place(self):
        for step, wrong in STEPS:
            self.assertEqual(sorted(wrong), list(range(1, len(step))))
            for place, others in wrong.items():
                for other in others:
                    self.assertIs(kept_whole(self, is_step, bent(step, (place,), other)), False, (step[0], other))

    def test_of_no_shape(self):
        for step, _ in STEPS:
            for thing in (step[:-1], step + (1,), step + (step[-1],), list(step), (step,), step[1:]):
                self.assertIs(is_step(thing), False, thing)
            for word in ("", step[0] + "s", step[0].upper(), None, True, [step[0]], (step[0],)):
                self.assertIs(is_step(bent(step, (0,), word)), False)

    def test_any_thing(self):
        for thing in (None, True, 0, "", "fall", "tick", (), [], ((),), ("tick",), ("all",), ["tick", ()], {}, (1,)):
            self.assertIs(is_step(thing), False, thing)

    def test_rules_and_jobs_of_each_word(self):
        for rule, _ in RULES:
            self.assertIs(is_step(("rule", rule)), True)
        for job in JOBS:
            self.assertIs(is_step(("job", "ann", job[0])), True)

    def test_of_any_size(self):
        huge = 10 ** 250
        for step in (("house", "h", "eu", huge), ("house", "h", "eu", 0), ("open", "a", "abcdefgh", ((0, 1), huge)),
                     ("open", "a", "h", ((huge, 1), 1)), ("price", ()), ("tick", (("ann", huge),) * 50), ("tick", ()),
                     ("correct", "ann", (huge, "letters", -huge)), ("correct", "ann", (0, "room", 1)),
                     ("tick", (("ann", 1), ("ann", 1)))):
            self.assertIs(is_step(step), True)

    def test_any_text_is_imported(self):
        for text in ("", "\n", "no store", "x" * 9000, "table emp 0 -\n", "  "):
            self.assertIs(is_step(("import", "ann", text)), True)


class Alls(unittest.TestCase):

    def test_all(self):
        every = tuple(step for step, _ in STEPS)
        for thing in (("all", ()), ("all", every), ("all", every[:1] * 100)):
            self.assertIs(kept_whole(self, is_step, thing), True)

    def test_all_within_all(self):
        for thing in (("all", (("all", ()),)), ("all", (("tick", ()), ("all", (("tick", ()),)))), ("all", ("all", ()))):
            self.assertIs(is_step(thing), False)

    def test_one_that_is_none(self):
        for step, wrong in STEPS:
            other = bent(step, (1,), wrong[1][0])
            for steps in ((other,), (step, other), (other, step)):
                self.assertIs(is_step(("all", steps)), False)

    def test_of_no_shape(self):
        for thing in (None, True, 0, "tick", [], [("tick", ())], ("tick", ()), {}):
            self.assertIs(is_step(("all", thing)), False)
        for thing in (("all", (), ()), ["all", ()], ("All", ()), ("all", (None,)), ("all", (["tick", ()],))):
            self.assertIs(is_step(thing), False)


if __name__ == "__main__":
    unittest.main()
