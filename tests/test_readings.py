"""Readings: point 89."""

import unittest

from tenanthall import readings
from tenanthall.errors import NoText
from tenanthall.lines import shown_job, shown_rule, shown_share, shown_store, shown_value
from tests.samples import JOBS, RULES, STORE, STORE_TEXT, kept_whole, refusal

BIG, TOO_BIG = "123456789012", "1234567890123"

VALUES = (None, 0, 7, -2, int(BIG), -int(BIG), ("link", "emp", 3), ("link", "abcdefgh", int(BIG)), ("said", ""),
          ("said", "bob"), ("said", " "), ("said", "^, _.^^ ,"), ("said", "twelve signs"), ("said", "^^^^^^^^^^^^"),
          ("said", "'"), ("said", "-"), ("said", "@a.1"), ("said", "0=1<2>3"), ("said", "~!/#?"))

NO_NUMBERS = ("", "-", "-1", "-0", "00", "01", "007", "1.0", "+1", "1_0", "a", "0x1", "#", "?", "1-", "1,2", TOO_BIG,
              "\u0661", "\u00b2", "1\n", "\n")
NO_WHOLES = ("", "-", "-0", "00", "-01", "--1", "+1", "1.0", "1_0", "a", "1-", TOO_BIG, "-" + TOO_BIG, "\u0661", "-\n")
NO_WORDS = ("", "Emp", "abcdefghi", "emp1", "e-p", "7", "#", "?", "/", "-", "'emp", "emp\n", "\u00e9")
NO_VALUES = tuple(word for word in NO_WHOLES if word != "-") + (
    "bob", "/", "#", "?", "@", "@emp", "@emp.", "@.3", "@emp.-1", "@emp.03", "@emp.3.4", "@Emp.3", "@abcdefghi.3",
    "@emp." + TOO_BIG, "@emp,3", "'a,b", "'a^b", "'^", "'a^", "'^^^", "'^-", "'^,", "'thirteensigns", "'" + "^_" * 13,
    "'a\nb", "'\n", "'50%", "'\u00e9", "'\t", "said", "\"a\"", "-\n", "7\n", "None", "True")
NO_CONDS = ("", "0", "=", "0=", "=7", "0=7,", ",0=7", "0=7,,1=7", "-,0=7", "0=7,-", "--", "-1=7", "00=7", "01=7",
            TOO_BIG + "=7", "0==7", "0<=7", "0!7", "0?7", "0=bob", "0='a,b", "0=07", "0=-0", "0=@emp", "k=7", "0=7;1=7",
            "0=7,1", "/", "#", "0=7\n")


class Reading(unittest.TestCase):

    def refused(self, read, text, word):
        self.assertEqual(refusal(self, NoText, read, text), {"line": 0, "word": word}, text)
        self.assertEqual(refusal(self, NoText, read, text=text, line=9), {"line": 9, "word": word}, text)

    def each_refused(self, read, good, place, words):
        """Refused at a place of a good text where any of these words stands there."""
        for other in words:
            bad = good.split(" ")
            bad[place] = other
            self.refused(read, " ".join(bad), place)

    def lengths_refused(self, read, text, longer=True):
        """Refused with a word too few, without signs ahead, between, behind, and, perhaps, too many."""
        words = text.split(" ")
        for many in range(1, len(words)):
            if words[many] == "/" or "/" not in words[:many]:
                self.refused(read, " ".join(words[:many]), many)
        for place in range(len(words) + 1):
            self.refused(read, " ".join(words[:place] + [""] + words[place:]), place)
        self.refused(read, "", 0)
        self.refused(read, " ", 0)
        self.refused(read, "\n", 0)
        self.refused(read, text + "\n", len(words) - 1)
        self.refused(read, text + " bob", len(words))
        if longer:
            self.refused(read, text + " 1", len(words))

    def read_alike(self, read, text, thing):
        told = kept_whole(self, read, text)
        self.assertEqual(repr(told), repr(thing))
        self.assertEqual(read(text=text, line=3), thing)
        with self.assertRaises(TypeError):
            read(text, 3)


class Values(Reading):

    def test_what_is_written(self):
        for value in VALUES:
            self.read_alike(readings.read_value, shown_value(value), value)

    def test_refused(self):
        for word in NO_VALUES:
            self.refused(readings.read_value, word, 0)
        for value in VALUES:
            self.lengths_refused(readings.read_value, shown_value(value))
        self.refused(readings.read_value, "bob 1 2", 0)
        self.refused(readings.read_value, "'a b", 1)


class Jobs(Reading):

    def test_what_is_written(self):
        for job, text, _, _ in JOBS:
            self.read_alike(readings.read_job, text, job)
            self.assertEqual(shown_job(readings.read_job(text)), text)

    def test_each_value_in_a_job(self):
        for value in VALUES:
            for job in (("put", "emp", "eu", (value, 1, value)), ("set", "emp", 3, 1, value),
                        ("count", "emp", ((0, "=", value), (int(BIG), "<", value), (2, ">", value)))):
                self.read_alike(readings.read_job, shown_job(job), job)
        self.read_alike(readings.read_job, "put emp eu /" + " 7" * 40, ("put", "emp", "eu", (7,) * 40))

    def test_words_too_few_and_too_many(self):
        for job, text, _, _ in JOBS:
            self.lengths_refused(readings.read_job, text, longer=job[0] != "put")

    def test_each_word_bent(self):
        numbers, words = NO_NUMBERS, NO_WORDS
        for good, wrong in (
                ("put emp eu / 7 8", (words, words, ("", "//", "7", "-"), NO_VALUES, NO_VALUES)),
                ("set emp 3 1 'bob", (words, numbers, numbers, NO_VALUES)),
                ("add emp 3 0 -2", (words, numbers, numbers, NO_WHOLES + ("'a", "@emp.3"))),
                ("drop emp 3", (words, numbers)),
                ("index emp 0", (words, numbers)),
                ("get emp 3", (words, numbers)),
                ("rows emp 0=7 5", (words, NO_CONDS, numbers)),
                ("count emp -", (words, NO_CONDS)),
                ("sum emp 0 1>3", (words, numbers, NO_CONDS)),
                ("follow emp 3 2", (words, numbers, numbers))):
            self.each_refused(readings.read_job, good, 0, ("", "Put", "puts", "stay", "table", "said", "#", "7", "\n"))
            for place, others in enumerate(wrong):
                self.each_refused(readings.read_job, good, place + 1, others)

    def test_the_first_that_is_due(self):
        self.refused(readings.read_job, "get 7 x y", 1)
        self.refused(readings.read_job, "get emp x y", 2)
        self.refused(readings.read_job, "get emp 3 y z", 3)
        self.refused(readings.read_job, "put emp", 2)
        self.refused(readings.read_job, "put emp eu", 3)
        self.refused(readings.read_job, "put emp eu 7", 3)


class Rules(Reading):

    def test_what_is_written(self):
        for rule, text in RULES + ((("kept", "eu", int(BIG)), "kept eu " + BIG),):
            self.read_alike(readings.read_rule, text, rule)
            self.assertEqual(shown_rule(readings.read_rule(text)), text)

    def test_refused(self):
        for _, text in RULES:
            self.lengths_refused(readings.read_rule, text)
            self.each_refused(readings.read_rule, text, 0, ("", "Stay", "get", "keep", "7"))
            self.each_refused(readings.read_rule, text, 1, NO_WORDS)
        for text in ("kept eu 4", "struck eu 9"):
            self.each_refused(readings.read_rule, text, 2, NO_NUMBERS + ("0",))


class Shares(Reading):

    def test_what_is_written(self):
        for share in (((0, 1), 1), ((1, 2), 4), ((17, 5), 10 ** 6), ((int(BIG), 1), int(BIG)), ((1, int(BIG)), 1)):
            self.read_alike(readings.read_share, shown_share(share), share)

    def test_refused(self):
        for text in ("1 2 4", "0 1 7"):
            self.lengths_refused(readings.read_share, text)
            self.each_refused(readings.read_share, text, 0, NO_NUMBERS)
            self.each_refused(readings.read_share, text, 1, NO_NUMBERS + ("0",))
            self.each_refused(readings.read_share, text, 2, NO_NUMBERS + ("0",))

    def test_a_common_divisor(self):
        for text in ("2 4 1", "0 2 5", "6 3 1", "2 2 2", "2 4", "2 4 x", "2 4 0", "2 4 1 1", "6 " + BIG + " 1"):
            self.refused(readings.read_share, text, 1)


class Stores(unittest.TestCase):

    def refused(self, text, line, word):
        self.assertEqual(refusal(self, NoText, readings.read_store, text), {"line": line, "word": word}, text)

    def test_what_is_written(self):
        rows = tuple((number, "eu", number, (value,)) for number, value in enumerate(VALUES))
        for store in ((), STORE, (("emp", 5, (), ()),), (("emp", 99, rows, (0, 3, int(BIG))),),
                      (("a", 0, (), ()), ("b", int(BIG), ((int(BIG) - 1, "eu", int(BIG), ()),), ()))):
            told = kept_whole(self, readings.read_store, shown_store(store))
            self.assertEqual(repr(told), repr(store))
        self.assertEqual(readings.read_store(text=STORE_TEXT), STORE)

    def test_line_ends(self):
        self.assertEqual(readings.read_store(""), ())
        self.assertEqual(readings.read_store(STORE_TEXT + "\n"), STORE)
        self.refused(STORE_TEXT + "\n\n", 6, 0)
        self.refused(STORE_TEXT + "\n\n\n", 6, 0)
        self.refused("\n", 0, 0)
        self.refused("\n\n", 0, 0)
        self.refused("\n" + STORE_TEXT, 0, 0)
        self.refused("table emp 5 -\n\n3 eu 5 / 7", 1, 0)

    def each_refused(self, good, place, words):
        """Refused at a place of a good line, the last of two, where any of these words stands there."""
        for other in words:
            bad = good.split(" ")
            bad[place] = other
            # A line end parts lines here: what stands ahead of it goes ahead.
            if "\n" not in other:
                self.refused("table a 9 -\n" + " ".join(bad), 1, place)
                self.refused("table a 9 -\n" + " ".join(bad) + "\nx", 1, place)

    def test_lines_of_tables(self):
        good = "table emp 5 0,2"
        self.each_refused(good, 0, ("", "Table", "tables", "put", "x", "/", "#", "-1"))
        self.each_refused(good, 1, NO_WORDS)
        self.each_refused(good, 2, NO_NUMBERS)
        self.each_refused(good, 3, ("", "--", "-,1", "0,", ",0", "0,,1", "1,0", "0,0", "0,2,1", "00", "0,01", "-1", "x",
                                    TOO_BIG, "0," + TOO_BIG, "0;1", "/"))
        for text, word in (("table", 1), ("table emp", 2), ("table emp 5", 3), ("table emp 5 ", 3),
                           ("table emp 5 - -", 4), ("table emp 5 - ", 4), ("table  emp 5 -", 1), (" table emp 5 -", 0),
                           ("table emp 5 0 2", 4)):
            self.refused(text, 0, word)

    def test_lines_of_rows(self):
        good = "3 eu 5 / 7 'bob"
        self.each_refused(good, 0, NO_NUMBERS)
        self.each_refused(good, 1, NO_WORDS)
        self.each_refused(good, 2, NO_NUMBERS)
        self.each_refused(good, 3, ("", "//", "7", "-"))
        self.each_refused(good, 4, NO_VALUES)
        self.each_refused(good, 5, NO_VALUES)
        for text, word in (("3", 1), ("3 eu", 2), ("3 eu 5", 3), ("3 eu 5 7", 3), ("3 eu 5 / ", 4), ("3 eu 5 / 7 ", 5),
                           ("3  eu 5 /", 1), (" 3 eu 5 /", 0), ("3 eu 5 / 7  8", 5)):
            self.refused("table emp 5 -\n" + text, 1, word)

    def test_a_row_ahead_of_any_table(self):
        for text in ("3 eu 5 / 7", "3 eu x", "x", "3", "3 eu 5 / 7\n" + STORE_TEXT):
            self.refused(text, 0, 0)

    def test_the_first_line_that_is_due(self):
        self.refused("table emp 5 -\n3 eu 5 / x\ntable\n\n", 1, 4)
        self.refused("table emp 5 -\n9 eu 5 /\ntable b\n", 2, 2)

    def test_lines_that_all_stand_but_make_no_store(self):
        for text, lines in (
                ("table b 0 -\ntable a 0 -", 2), ("table a 0 -\ntable a 0 -", 2), ("table a 0 -\ntable a 1 -\n", 2),
                ("table a 5 -\n1 eu 0 /\n0 eu 0 /", 3), ("table a 5 -\n1 eu 0 /\n1 eu 0 /\n", 3),
                ("table a 0 -\n0 eu 0 /", 2), ("table a 3 -\n3 eu 0 /\ntable b 0 -", 3)):
            self.refused(text, lines, 0)

    def test_the_text_alone(self):
        with self.assertRaises(TypeError):
            readings.read_store("", line=0)


if __name__ == "__main__":
    unittest.main()
