"""What is raised where something is refused: one base of all, three families, one class for each refusal."""


class TenantError(ValueError):
    """The base of all refusals."""


class PaperError(TenantError):
    """The family of refusals of papers and fills."""


class HallError(TenantError):
    """The family of refusals of a hall's deeds."""


class TextError(TenantError):
    """The family of refusals of texts."""


class NoPaper(PaperError):
    """A thing isn't the paper that it was handed in as."""

    def __init__(self, word, at):
        self.word = word
        self.at = at


class NoTenant(HallError):
    """There is no tenant, or no guest, of this name."""

    def __init__(self, name):
        self.name = name


class NoHall(HallError):
    """A hall, or a part of it, can't do this."""

    def __init__(self, word, at):
        self.word = word
        self.at = at


class NoBack(HallError):
    """There aren't so many steps to go back by, or to look at."""

    def __init__(self, times):
        self.times = times


class NoText(TextError):
    """A text writes nothing that can be read: word of line can't stand."""

    def __init__(self, line, word):
        self.line = line
        self.word = word


class NoLine(TextError):
    """A row for the desk is of no form."""

    def __init__(self, line):
        self.line = line
