"""A desk keeps a Hall, and answers rows with texts."""

from tenanthall.days import CALENDAR
from tenanthall.deskrows import read_row
from tenanthall.hall import Hall
from tenanthall.kinds import is_refusal, is_value
from tenanthall.lines import shown_value


class Desk:
    """Each row is answered, or refused: of no form by the desk, else as the Hall refuses."""

    def __init__(self):
        self.kept_hall = Hall(calendar=CALENDAR)
        self.begun = 0
        self.ended = 0

    def say(self, row):
        """The answer to a row, any text."""
        self.begun += 1
        try:
            word, things = read_row(row)
            return answer_to(self.kept_hall, word, things)
        finally:
            self.ended += 1

    def counts(self):
        """How many rows were begun, and how many ended."""
        return self.begun, self.ended


def answer_to(hall, word, things):
    """The answer of a Hall to what a row asks."""
    if word == "do":
        return str(hall.run(things, most=len(things)))
    if word == "all":
        hall.step(("all", things))
        return "ok"
    if word == "undo":
        hall.back(times=things[0])
        return str(len(hall))
    if word == "now":
        return str(hall.now()[0])
    if word == "tenants":
        return shown_words(hall.tenants())
    return answer_of_tenant(hall, word, things)


def answer_of_tenant(hall, word, things):
    """The answer of a Hall to what a row asks of a TENANT."""
    name = things[0]
    if word == "where":
        return hall.holding(name)[0]
    if word == "shape":
        return shown_words([f"{table}:{after}:{many}" for table, after, many, _ in hall.shape(name)])
    if word == "told":
        return shown_told(hall.told(name, things[1]))
    return str(sum([line[3] for line in hall.holding(name)[6]]))


def shown_words(words):
    """Words with blanks between, - of none."""
    return "-" if len(words) == 0 else " ".join(words)


def shown_told(told):
    """What a JOB told, as a text."""
    if told is True:
        return "+"
    if is_refusal(told):
        return " ".join(told)
    if is_value(told):
        return shown_value(told)
    return "-" if told == () else ",".join([shown_value(value) for value in told])
