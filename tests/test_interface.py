"""The interface: names, arguments, and where each is defined."""

import importlib
import inspect
import unittest

SIGNATURES = {
    "jobs": ("done_job(store, job, *, tick, land, rules=())",),
    "lookpapers": ("look_paper(store, ask)",),
    "lookchecker": ("lets_look(store, ask, thing)",),
    "queues": ("life_of(store)", "handed_in(life, job)", "sliced(life, many, *, tick, land, rules=())"),
    "alone": ("tick_alone(life, share, *, tick, land, rules=())",
              "run_alone(store, share, handed, *, ticks, land, rules=())"),
    "slices": ("tick_house(house, lives, slices, *, tick, rules=())",
               "run_house(house, stores, handed, *, ticks, orders=(), rules=())"),
    "moveruns": ("run_moved(store, share, handed, *, ticks, begin, many, land, there, rules=())",),
    "movechecker": ("lets_move(old, thing, *, many, land, rules=())",),
    "importchecker": ("lets_import(store, parted, newer, thing, *, tick)",),
    "backups": ("backup_of(store, *, tick)", "backup_struck(backup, *, tick, rules=())",
                "restored(store, backup, *, tick, land, rules=())"),
    "billchecker": ("lets_bill(notes, lines, until, thing, *, prices, calendar=(5, 4))",),
    "halls": ("void_hall()",),
    "hallsteps": ("hall_step(hall, thing, *, calendar=(5, 4))",),
    "kinds": ("is_number(thing)", "is_whole(thing)", "is_word(thing)", "is_value(thing)", "is_row(thing)",
              "is_store(thing)", "is_cond(thing)", "are_conds(thing)", "is_deed(thing)", "is_ask(thing)",
              "is_job(thing)"),
    "stores": ("tables_of(store)", "rows_of(store, table)", "next_of(store, table)", "indexes_of(store, table)",
               "row_of(store, table, id_told)", "many_rows(store)"),
    "conds": ("meets(row, conds)", "meeting(store, table, conds)"),
    "forms": ("form_of(job)", "job_of(form, fills)"),
    "tokens": ("is_fraction(thing)", "is_share(thing)", "ratio(over, under)", "added(one, other)",
               "lesser(one, other)", "is_less(one, other)", "wholes(fraction)", "grown(tokens, share)",
               "paid(tokens, cost)", "pace_of(share, ticks, *, tokens=(0, 1))"),
    "measures": ("measure_of(store, job)", "looked_at(store, ask)"),
    "houses": ("is_house(thing)", "admitted(house, name, share)", "left(house, name)"),
    "pacechecker": ("lets_pace(house, thing, *, ticks)",),
    "pacepapers": ("givens_of(paper, name, *, ticks)",),
    "moves": ("begun_move(store, many, *, land, rules=())", "logged(move, deed, answer, *, tick)",
              "copied_on(move, store)", "is_left(move, store)", "store_there(move, store)",
              "move_struck(move, store, *, tick, rules=())", "broken_by(deed, answer, *, land, rules=())"),
    "imports": ("imported(store, parted, *, tick, land, rules=(), strict=False)",
                "imported_text(store, text, *, tick, land, rules=(), strict=False)"),
    "exports": ("exported(store)", "letters(store)"),
    "days": ("is_calendar(thing)", "day_of(tick, *, calendar=(5, 4))", "period_of(day, *, calendar=(5, 4))",
             "noted(notes, day, kind, units)"),
    "prices": ("is_prices(thing)", "cost(tiers, units, *, ahead=0)"),
    "bills": ("bill_of(notes, day, *, prices, calendar=(5, 4))",
              "bills_until(notes, until, *, prices, calendar=(5, 4))", "summed(lines)"),
    "corrections": ("corrected(notes, correction)",
                    "correction_lines(notes, correction, until, *, prices, calendar=(5, 4))"),
    "billpapers": ("bill_paper(notes, lines, until, *, prices, calendar=(5, 4))",),
    "rules": ("is_rules(thing)", "reached(store, rule)", "kept_rows(store, *, rules, tick)",
              "due_rows(store, *, rules, tick)", "strays(store, *, rules, land)",
              "store_struck(store, *, rules, tick)"),
    "showing": ("shown_by(store, ask, answer)", "book_with(book, store, ask, answer, *, rules, tick)"),
    "places": ("due_in(places, *, rules, tick)", "places_struck(places, *, rules, tick)"),
    "reachpapers": ("reach_paper(places, *, rules, tick)",),
    "reachchecker": ("lets_reach(places, thing, *, rules, tick)",),
    "hallkinds": ("is_step(thing)",),
    "sights": ("sight_of(log, name)", "shape_of(store)"),
    "parting": ("parted_steps(steps, name)",),
    "alikepapers": ("alike_paper(one, other, name)",),
    "alikechecker": ("lets_alike(one, other, name, thing)",),
    "lines": ("shown_value(value)", "shown_job(job)", "shown_rule(rule)", "shown_share(share)", "shown_store(store)"),
    "readings": ("read_value(text, *, line=0)", "read_job(text, *, line=0)", "read_rule(text, *, line=0)",
                 "read_share(text, *, line=0)", "read_store(text)"),
}

METHODS = {
    ("formkeep", "FormKeep()"): ("job(self, form, fills)", "forms(self)", "read(self)", "__len__(self)"),
    ("shelves", "Shelf(store=())"): ("do(self, job, *, tick, land, rules=())", "store(self)", "steps(self)",
                                     "index(self, table, k)", "__len__(self)", "__eq__(self, other)"),
    ("hall", "Hall(*, calendar=(5, 4))"): (
        "step(self, thing)", "run(self, steps, *, most=200)", "back(self, *, times=1)", "now(self)", "then(self, k)",
        "steps(self)", "log(self)", "admins(self)", "tenants(self)", "holding(self, name)", "sight(self, name)",
        "shape(self, name)", "told(self, name, number)", "has(self, thing)", "counts(self)", "__len__(self)",
        "__str__(self)", "__eq__(self, other)"),
    ("desk", "Desk()"): ("say(self, row)", "counts(self)"),
}

VALUES = (("tokens", "NOUGHT", (0, 1)), ("days", "CALENDAR", (5, 4)), ("halls", "MANY", 4), ("hall", "LIMIT", 200))


class Interface(unittest.TestCase):

    def test_functions_stand_where_the_interface_lists_them(self):
        for name, told in SIGNATURES.items():
            module = importlib.import_module(f"tenanthall.{name}")
            for signature in told:
                called = getattr(module, signature.partition("(")[0])
                self.assertTrue(inspect.isfunction(called))
                self.assertEqual(called.__module__, module.__name__)
                self.assertEqual(called.__name__ + str(inspect.signature(called)), signature)

    def test_values(self):
        for name, word, value in VALUES:
            self.assertEqual(vars(importlib.import_module(f"tenanthall.{name}"))[word], value)

    def test_classes_have_their_methods_in_their_own_bodies(self):
        for (name, signature), told in METHODS.items():
            module = importlib.import_module(f"tenanthall.{name}")
            made = getattr(module, signature.partition("(")[0])
            self.assertTrue(inspect.isclass(made))
            self.assertEqual(made.__module__, module.__name__)
            self.assertEqual(made.__name__ + str(inspect.signature(made)), signature)
            for method in told:
                called = vars(made)[method.partition("(")[0]]
                self.assertEqual(called.__name__ + str(inspect.signature(called)), method)


if __name__ == "__main__":
    unittest.main()
