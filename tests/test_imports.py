"""IMPORTS: points 45 and 47."""

import random
import unittest

from tenanthall.errors import NoHall, NoText
from tenanthall.imports import imported, imported_text
from tenanthall.kinds import is_store
from tenanthall.lines import shown_store
from tests.model import some_store
from tests.samples import kept_whole, refusal

EU, US = "eu", "us"
STORE = (
    ("dept", 3, ((0, EU, 0, (1,)), (2, US, 1, ())), (1,)),
    ("emp", 9, ((4, EU, 0, (("link", "dept", 0), ("link", "emp", 7))),), (0, 2)),
    ("void", 5, (), ()),
)

# Links to its own ROW, ahead and behind, to one that was dropped, to a table that only STORE has, to none.
PARTED = (
    ("emp", 8, (
        (0, US, 3, (7, ("link", "emp", 0), ("link", "team", 2), None)),
        (3, EU, 4, (("link", "emp", 4), ("link", "dept", 0), ("said", "emp"))),
        (5, EU, 4, (("link", "emp", 3), ("link", "none", 1), ("link", "emp", 0))),
    ), (2, 5)),
    ("team", 3, ((2, EU, 1, (("link", "emp", 5), 0)),), ()),
    ("void", 7, (), (1,)),
    ("zero", 4, (), (3,)),
)
NEWER = (
    STORE[0],
    ("emp", 12, STORE[1][2] + (
        (9, US, 6, (7, ("link", "emp", 9), ("link", "team", 0), None)),
        (10, EU, 6, (None, None, ("said", "emp"))),
        (11, EU, 6, (("link", "emp", 10), None, ("link", "emp", 9))),
    ), (0, 2, 5)),
    ("team", 1, ((0, EU, 6, (("link", "emp", 11), 0)),), ()),
    ("void", 5, (), (1,)),
    ("zero", 0, (), (3,)),
)
PAIRS = (("emp", 0, 9), ("emp", 3, 10), ("emp", 5, 11), ("team", 2, 0))
LOOSE = (("emp", 3, 0), ("emp", 3, 1), ("emp", 5, 1))


def brought(store, parted, **more):
    return imported(store, parted, tick=6, land=EU, **more)


class Imports(unittest.TestCase):

    def test_told(self):
        told = kept_whole(self, brought, STORE, PARTED)
        self.assertEqual(told, (NEWER, PAIRS, LOOSE))
        self.assertTrue(is_store(told[0]))
        self.assertTrue(all(isinstance(part, tuple) for part in told))
        self.assertEqual(imported(strict=False, rules=(), land=EU, tick=6, parted=PARTED, store=STORE), told)

    def test_into_nothing(self):
        told = brought((), PARTED[1:])
        self.assertEqual(told[0], (("team", 1, ((0, EU, 6, (None, 0)),), ()), ("void", 0, (), (1,)), ("zero", 0, (), (3,))))
        self.assertEqual(told[1:], ((("team", 2, 0),), (("team", 2, 0),)))
        self.assertEqual(brought((), ()), ((), (), ()))

    def test_nothing_into_it(self):
        self.assertEqual(brought(STORE, ()), (STORE, (), ()))

    def test_tables_without_rows(self):
        told = brought(STORE, PARTED[2:])
        self.assertEqual(told, (STORE[:2] + (("void", 5, (), (1,)), ("zero", 0, (), (3,))), (), ()))
        self.assertEqual(brought(STORE[2:], (("void", 9, (), ()),)), (STORE[2:], (), ()))

    def test_indexes_of_both(self):
        for ours, theirs, both in (((), (), ()), ((0, 3), (), (0, 3)), ((), (0, 3), (0, 3)), ((1, 4), (0, 1, 7), (0, 1, 4, 7)),
                                   ((8, 64), (1, 16), (1, 8, 16, 64))):
            told = brought((("emp", 2, (), ours),), (("emp", 1, ((0, EU, 0, ()),), theirs),))
            self.assertEqual(told[0], (("emp", 3, ((2, EU, 6, ()),), both),))

    def test_born_at_the_tick_of_the_land_that_it_was(self):
        told, _, _ = imported(STORE, PARTED, tick=99, land=US)
        self.assertEqual([row[1:3] for row in told[1][2]], [(EU, 0), (US, 99), (EU, 99), (EU, 99)])

    def test_links_of_what_was_there_stay(self):
        # Also where one led to none: the id 7 of emp doesn't come again.
        told, _, _ = brought(STORE, PARTED)
        self.assertEqual(told[1][2][0], STORE[1][2][0])

    def test_a_link_to_an_id_that_only_the_store_has_is_loose(self):
        parted = (("emp", 1, ((0, EU, 0, (("link", "emp", 4), ("link", "emp", 0))),), ()),)
        told, pairs, loose = brought(STORE, parted)
        self.assertEqual(told[1][2][1], (9, EU, 6, (None, ("link", "emp", 9))))
        self.assertEqual((pairs, loose), ((("emp", 0, 9),), (("emp", 0, 0),)))

    def test_imported_twice(self):
        once, pairs, _ = brought(STORE, PARTED)
        twice, again, _ = brought(once, PARTED)
        self.assertEqual(again, (("emp", 0, 12), ("emp", 3, 13), ("emp", 5, 14), ("team", 2, 1)))
        self.assertEqual([entry[2][:len(its[2])] for entry, its in zip(twice, once)], [entry[2] for entry in once])


class Refused(unittest.TestCase):

    def test_strays(self):
        for rules, land, spots in (((("stay", EU),), US, (("emp", 3), ("emp", 5), ("team", 2))),
                                   ((("stay", US),), EU, (("emp", 0),)),
                                   ((("kept", EU, 9), ("stay", EU), ("stay", US)), "zz",
                                    (("emp", 0), ("emp", 3), ("emp", 5), ("team", 2)))):
            for strict in (True, False):
                told = refusal(self, NoHall, imported, STORE, PARTED, tick=6, land=land, rules=rules, strict=strict)
                self.assertEqual(told, {"word": "stay", "at": spots})

    def test_strays_of_the_store_are_let_be(self):
        parted = (("emp", 1, ((0, EU, 0, ()),), ()),)
        self.assertEqual(brought(STORE, parted, rules=(("stay", US),))[1], (("emp", 0, 9),))

    def test_strict(self):
        told = refusal(self, NoHall, brought, STORE, PARTED, strict=True)
        self.assertEqual(told, {"word": "link", "at": ("emp", 3)})
        told = refusal(self, NoHall, brought, STORE, PARTED[1:], strict=True)
        self.assertEqual(told, {"word": "link", "at": ("team", 2)})
        whole = (("emp", 1, ((0, EU, 0, (("link", "emp", 0), None)),), ()),)
        self.assertEqual(brought(STORE, whole, strict=True), brought(STORE, whole))
        self.assertEqual(brought(STORE, PARTED, strict=1), (NEWER, PAIRS, LOOSE))

    def test_by_name_alone(self):
        for call, parted in ((imported, PARTED), (imported_text, shown_store(PARTED))):
            with self.assertRaises(TypeError):
                call(STORE, parted, 6, EU)


class Texts(unittest.TestCase):

    def test_as_what_it_writes(self):
        text = shown_store(PARTED)
        for more in ({}, {"rules": (("stay", "zz"),)}, {"strict": False}):
            told = kept_whole(self, lambda *things: imported_text(*things, tick=6, land=EU, **more), STORE, text)
            self.assertEqual(told, (NEWER, PAIRS, LOOSE))
        self.assertEqual(imported_text(strict=False, rules=(), land=EU, tick=6, text=text + "\n", store=STORE),
                         (NEWER, PAIRS, LOOSE))

    def test_an_empty_text(self):
        self.assertEqual(imported_text(STORE, "", tick=6, land=EU), (STORE, (), ()))

    def test_texts_that_are_refused(self):
        for text, line, word in ((" ", 0, 0), ("\n", 0, 0), ("0 eu 0 /", 0, 0), ("table emp 1", 0, 3),
                                 ("table emp 1 -\n0 eu x /", 1, 2), ("table emp 0 -\n0 eu 0 /", 2, 0)):
            told = refusal(self, NoText, imported_text, STORE, text, tick=6, land=EU)
            self.assertEqual(told, {"line": line, "word": word}, text)

    def test_ahead_of_all_else(self):
        text = "table emp 1 -\n0 us 0 / @dept.0\nx"
        told = refusal(self, NoText, imported_text, STORE, text, tick=6, land=EU, rules=(("stay", US),), strict=True)
        self.assertEqual(told, {"line": 2, "word": 0})

    def test_refused_then_as_what_it_writes(self):
        text = shown_store(PARTED)
        told = refusal(self, NoHall, imported_text, STORE, text, tick=6, land=EU, rules=(("stay", US),), strict=True)
        self.assertEqual(told, {"word": "stay", "at": (("emp", 0),)})
        told = refusal(self, NoHall, imported_text, STORE, text, tick=6, land=EU, strict=True)
        self.assertEqual(told, {"word": "link", "at": ("emp", 3)})


class Whole(unittest.TestCase):
    """Point 47: what was there stays; LINKS within lead to the same ROWS; nothing leads out."""

    def spotted(self, store):
        return {(entry[0], row[0]): row for entry in store for row in entry[2]}

    def test_any_stores(self):
        chance = random.Random(45)
        within = 0
        for _ in range(200):
            store, parted = some_store(chance), some_store(chance)
            told, pairs, loose = brought(store, parted)
            self.assertTrue(is_store(told))
            new = {(table, number): (table, newer) for table, number, newer in pairs}
            rows, ours, theirs = self.spotted(told), self.spotted(store), self.spotted(parted)
            self.assertEqual(list(new), sorted(theirs))
            self.assertEqual(len(rows), len(ours) + len(theirs))
            self.assertEqual({spot: rows[spot] for spot in ours}, ours)
            for spot, row in theirs.items():
                worths = []
                for k, worth in enumerate(row[3]):
                    if isinstance(worth, tuple) and worth[0] == "link":
                        self.assertEqual(worth[1:] not in new, spot + (k,) in loose)
                        worth = ("link",) + new[worth[1:]] if worth[1:] in new else None
                        within += worth is not None
                    worths.append(worth)
                self.assertEqual(rows[new[spot]], (new[spot][1], row[1], 6, tuple(worths)))
            self.assertEqual(list(loose), sorted(loose))
        self.assertGreater(within, 100)


if __name__ == "__main__":
    unittest.main()
