"""A FORM KEEP: FORMS that were told are read once, and filled time and again."""

from tenanthall.forms import filled, read_form


class FormKeep:
    """One for all TENANTS: what it tells doesn't hang on what it keeps."""

    def __init__(self):
        self.kept = {}
        self.many_read = 0

    def job(self, form, fills):
        """The JOB that any text as a FORM and any thing as FILLS write; a FORM is kept, whatever the FILLS are."""
        if form not in self.kept:
            self.many_read += 1
            self.kept[form] = read_form(form)
        return filled(self.kept[form], fills)

    def forms(self):
        """The FORMS that it keeps, rising."""
        return tuple(sorted(self.kept))

    def read(self):
        """How many texts it read anew."""
        return self.many_read

    def __len__(self):
        return len(self.kept)
