"""What holds over the whole program: points 1, 7, 14, 29, 33, 43, 47, 49, 58, 60, 65, 74, 75, 76 and 81."""

import random
import unittest

from tenanthall.alikechecker import lets_alike
from tenanthall.alikepapers import alike_paper
from tenanthall.alone import run_alone
from tenanthall.billchecker import lets_bill
from tenanthall.billpapers import bill_paper
from tenanthall.bills import bills_until, summed
from tenanthall.errors import HallError, NoHall, TextError
from tenanthall.exports import letters
from tenanthall.hall import Hall
from tenanthall.houses import is_house
from tenanthall.kinds import is_store
from tenanthall.moves import is_left, store_there
from tenanthall.parting import parted_steps
from tenanthall.places import due_in
from tenanthall.prices import is_prices
from tenanthall.rules import is_rules, store_struck, strays
from tests.hallsamples import EU, LARGE, OPENED, SLOW, TICK, US, some_step
from tests.model import some_job

NAMES = ("ann", "bob", "cy")


def some_hall(chance, many=90, **more):
    """A Hall behind those of some STEPS that can be done."""
    hall = Hall()
    hall.run(OPENED + tuple(("import", name, LARGE) for name in ("ann", "bob", "bob")))
    for _ in range(many):
        step = some_step(chance, **more)
        try:
            hall.step(step)
        except (HallError, TextError):
            pass
    return hall


def handed_and_done(hall, name):
    """Of a TENANT the numbers that were taken, and those that were DONE, in order."""
    sight = hall.sight(name)
    return [event[2] for event in sight if event[1] == "took"], [event[2] for event in sight if event[1] == "done"]


def jobs_of(steps, name):
    """(tick, JOB) of all that STEPS hand in of a TENANT, from its first tick, 0, on."""
    tick, told = 0, []
    for step in steps:
        if step[0] == "all":
            raise ValueError(step)
        if step[0] == "tick":
            tick += 1
        if step[:2] == ("job", name):
            told.append((tick, step[2]))
    return tuple(told)


class Whole(unittest.TestCase):

    def test_each_job_is_in_the_queue_or_was_done_once(self):
        chance = random.Random(81)
        done_ones = moved = 0
        for _ in range(60):
            hall = some_hall(chance)
            for name in hall.tenants():
                took, dones = handed_and_done(hall, name)
                queue = [number for number, _ in hall.holding(name)[1][1]]
                self.assertEqual(took, list(range(len(took))))
                self.assertEqual(dones + queue, took)
                self.assertEqual(hall.holding(name)[1][4], len(took))
                done_ones += len(dones)
            moved += sum(event[1] == "switched" for event in hall.admins())
        self.assertGreater(done_ones, 500)
        self.assertGreater(moved, 30)

    def test_lines_summed_are_the_bills(self):
        chance = random.Random(82)
        corrections = 0
        for _ in range(60):
            hall = some_hall(chance)
            tick, _, prices, _, holdings = hall.now()
            for name, holding in holdings:
                notes, lines = holding[5:7]
                self.assertEqual(summed(lines), summed(bills_until(notes, tick // 5, prices=prices)))
                paper = bill_paper(notes, lines, tick // 5, prices=prices)
                self.assertEqual(paper, ("sums", sum(line[3] for line in lines)))
                self.assertEqual(lets_bill(notes, lines, tick // 5, paper, prices=prices), "sums")
                told = [event for event in hall.sight(name) if event[1] in ("bill", "corrected")]
                self.assertEqual(sum((event[-1] for event in told), ()), lines)
                corrections += sum(event[1] == "corrected" and event[2] != () for event in told)
        self.assertGreater(corrections, 10)

    def test_behind_a_tick_nothing_is_due(self):
        chance = random.Random(83)
        struck = logs = 0
        for _ in range(60):
            hall = some_hall(chance)
            for k, (step, events) in enumerate(hall.log()):
                tick, rules, _, _, holdings = hall.then(k + 1)
                struck += sum(event[2] == "struck" for event in events)
                if step[0] != "tick":
                    continue
                for _, holding in holdings:
                    places = [("store", holding[1][0])]
                    if holding[3] is not None:
                        places += [("copy", holding[3][1][3]), ("log", holding[3][1][4])]
                        logs += len(holding[3][1][4])
                    if holding[4] is not None:
                        places.append(("backup", holding[4][1]))
                    self.assertEqual(due_in(tuple(places), rules=rules, tick=tick - 1), ())
        self.assertGreater(struck, 30)
        self.assertGreater(logs, 20)

    def test_halls_are_whole(self):
        chance = random.Random(84)
        for _ in range(30):
            hall = some_hall(chance)
            for k in range(len(hall) + 1):
                tick, rules, prices, houses, holdings = hall.then(k)
                self.assertTrue(is_rules(rules) and is_prices(prices))
                self.assertTrue(all(is_house(house) for _, house in houses))
                guests = {(name, guest) for name, house in houses for guest, _ in house[2]}
                expected = set()
                for name, holding in holdings:
                    house, (store, queue, tokens, owed, _), paid, move, backup = holding[:5]
                    expected.add((house, name))
                    self.assertTrue(is_store(store))
                    self.assertEqual(owed is None and paid == 0 or owed >= 1 and queue != (), True)
                    if move is not None:
                        expected.add((move[0], name))
                        self.assertTrue(is_store(move[1][3]))
                        self.assertEqual(strays(store, rules=rules, land=dict(houses)[move[0]][0]), ())
                    if backup is not None:
                        self.assertTrue(is_store(backup[1]) and backup[0] <= tick)
                self.assertEqual(guests, expected)
                self.assertEqual([name for name, _ in houses], sorted(name for name, _ in houses))
                self.assertEqual([name for name, _ in holdings], sorted(name for name, _ in holdings))

    def test_a_move_that_could_switch_now_leads_to_the_store(self):
        chance = random.Random(85)
        switched = 0
        for _ in range(60):
            hall = some_hall(chance)
            for k, (step, events) in enumerate(hall.log()):
                for event in events:
                    if event[2] != "switched" or step[0] != "tick":
                        continue
                    ahead = dict(hall.then(k)[4])[event[3]]
                    behind = dict(hall.then(k + 1)[4])[event[3]]
                    self.assertEqual((ahead[0] == event[4], behind[0], behind[3]), (False, event[4], None))
                    switched += 1
            for name, holding in hall.now()[4]:
                if holding[3] is not None and not is_left(holding[3][1], holding[1][0]):
                    self.assertEqual(store_there(holding[3][1], holding[1][0]), holding[1][0])
        self.assertGreater(switched, 30)


class Parted(unittest.TestCase):
    """Points 75 and 76: what a TENANT is told, and when, hangs on its own."""

    def test_parted_it_is_told_the_same(self):
        chance = random.Random(75)
        told = 0
        for _ in range(60):
            hall = some_hall(chance)
            for name in hall.tenants():
                own = Hall()
                steps = parted_steps(hall.steps(), name)
                self.assertEqual(own.run(steps), len(steps))
                self.assertEqual(repr(own.sight(name)), repr(hall.sight(name)))
                self.assertEqual(repr(own.holding(name)), repr(hall.holding(name)))
                self.assertEqual(own.tenants(), (name,))
                told += len(own.sight(name))
        self.assertGreater(told, 2000)

    def test_by_a_paper_the_sights_are_the_same(self):
        chance = random.Random(76)
        pairs = 0
        for _ in range(40):
            hall = some_hall(chance, 50)
            name = chance.choice(hall.tenants())
            other = Hall()
            try:
                for step in hall.steps():
                    self.others_do(chance, other, name)
                    if parted_steps((step,), name) != ():
                        other.step(self.among_others(other, step, name))
            except NoHall as refused:
                # Where the others have taken all the room it can't be done.
                self.assertEqual(refused.word, "room")
                continue
            paper = alike_paper(hall.steps(), other.steps(), name)
            self.assertEqual(lets_alike(hall.steps(), other.steps(), name, paper), len(paper))
            self.assertEqual(repr(other.sight(name)), repr(hall.sight(name)))
            pairs += len(paper)
        self.assertGreater(pairs, 500)

    def others_do(self, chance, hall, name):
        """Let others do something, where it can be done."""
        while chance.random() < 0.5:
            step = some_step(chance, names=tuple(one for one in NAMES if one != name))
            if parted_steps((step,), name) == ():
                try:
                    hall.step(step)
                except (HallError, TextError):
                    pass

    def among_others(self, hall, step, name):
        """A STEP that is the same PARTED, whatever it has of others."""
        own = parted_steps((step,), name)[0]
        if own[0] != "tick":
            return own
        return "tick", tuple((one, 1) for one in hall.tenants() if one != name) + own[1]

    def test_as_alone(self):
        """M1 and M2: where all is set up ahead of tick 0, with MOVES and SLICES meanwhile."""
        chance = random.Random(7)
        moved = dones = 0
        for _ in range(80):
            rules = chance.choice(((), (("kept", EU, 2), ("struck", EU, 4)), (("stay", "aa"), ("struck", US, 2), ("told", EU))))
            shares = {name: chance.choice((SLOW, ((5, 2), 9), ((12, 1), 20))) for name in NAMES}
            hall = Hall()
            hall.run((("house", "h", EU, 99), ("house", "k", US, 99)) + tuple(("rule", rule) for rule in rules) +
                     tuple(("open", name, chance.choice("hk"), shares[name]) for name in NAMES))
            for _ in range(70):
                step = some_step(chance, rules=False)
                if step[0] in ("job", "tick", "move", "break", "save", "export", "correct", "house"):
                    try:
                        hall.step(step)
                    except HallError:
                        pass
            ticks = hall.now()[0]
            for name in NAMES:
                life, givens, told = run_alone((), shares[name], jobs_of(hall.steps(), name), ticks=ticks, land=EU, rules=rules)
                late = [job for tick, job in jobs_of(hall.steps(), name) if tick == ticks]
                sight = tuple((event[2], event[0], event[3]) for event in hall.sight(name) if event[1] == "done")
                self.assertEqual(repr(sight), repr(told))
                own = hall.holding(name)[1]
                self.assertEqual((own[0], own[2:4]), (life[0], life[2:4]))
                self.assertEqual([job for _, job in own[1]], [job for _, job in life[1]] + late)
                steps = sum(units for _, kind, units in hall.holding(name)[5] if kind == "steps")
                corrected = sum(step[2][2] for step in hall.steps() if step[:2] == ("correct", name) and step[2][1] == "steps")
                self.assertEqual(steps + hall.holding(name)[2], sum(givens) + corrected)
                dones += len(told)
            moved += sum(event[1] == "switched" for event in hall.admins())
        self.assertGreater(dones, 1000)
        self.assertGreater(moved, 80)


class Secrets(unittest.TestCase):
    """M6: no refusal, id or tick tells of another one; no ADMIN is told worths."""

    def test_admins_are_told_no_worths(self):
        chance = random.Random(6)
        for _ in range(40):
            hall = some_hall(chance)
            secret = ("said", "secret")
            for name in hall.tenants():
                hall.run((("job", name, ("put", "emp", EU, (secret, 987654321))), ("job", name, ("rows", "emp", ((0, "=", secret),), 9)),
                          ("export", name), TICK, TICK, TICK, ("export", name), TICK, TICK))
            text = repr(hall.admins())
            for word in ("secret", "987654321", "said", "link", "ann'", "done", "took"):
                self.assertEqual(word in text.replace("'ann'", ""), False, word)
            words = {event[1] for event in hall.admins()}
            self.assertLessEqual(words, set("""house opened rule price moving broken fell saved restored exported imported
                corrected switched bill""".split()))

    def test_tenants_are_told_of_themselves_alone(self):
        chance = random.Random(61)
        for _ in range(40):
            hall = some_hall(chance)
            for name in hall.tenants():
                words = {event[1] for event in hall.sight(name)}
                self.assertLessEqual(words, set("opened anew restored export imported corrected took done struck bill".split()))
                for event in hall.sight(name):
                    for other in NAMES:
                        # Of the drawn VALUES one is a SAID of this text.
                        self.assertFalse(other in event, event)

    def test_letters_of_exports(self):
        chance = random.Random(44)
        for _ in range(20):
            hall = some_hall(chance)
            for name in hall.tenants():
                events = hall.step(("export", name))
                self.assertEqual(events[1][4], letters(hall.holding(name)[1][0]))
                self.assertEqual(events[1][4], len(events[0][3]))


class Rules(unittest.TestCase):
    """Point 65, by what a hall does."""

    def test_a_rule_reaches_just_the_rows_of_its_land(self):
        chance = random.Random(65)
        for _ in range(40):
            hall = some_hall(chance)
            for k, (step, events) in enumerate(hall.log()):
                if step[0] != "tick":
                    continue
                tick, rules = hall.then(k)[:2]
                for name, holding in hall.then(k + 1)[4]:
                    gone = [event[3:] for event in events if event[0] == name and event[2] == "struck"]
                    self.assertEqual(gone, sorted(gone))
                    store = holding[1][0]
                    self.assertEqual(store_struck(store, rules=rules, tick=tick), store)
                    there = {(table, row[0]) for table, _, rows, _ in store for row in rows}
                    self.assertFalse(there & set(gone))

    def test_no_strays_come_by_deeds(self):
        chance = random.Random(66)
        for _ in range(60):
            hall = Hall()
            hall.run(OPENED + (("rule", ("stay", EU)), ("rule", ("stay", US)), ("open", "cy", "k", SLOW)))
            for _ in range(60):
                step = some_step(chance)
                if step[0] in ("job", "tick", "move", "break", "fall", "save", "restore", "import", "export"):
                    try:
                        hall.step(step)
                    except (HallError, TextError):
                        pass
                rules, houses, holdings = hall.now()[1], dict(hall.now()[3]), hall.now()[4]
                for _, holding in holdings:
                    self.assertEqual(strays(holding[1][0], rules=rules, land=houses[holding[0]][0]), ())


if __name__ == "__main__":
    unittest.main()
