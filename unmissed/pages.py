"""The lines of a book, taken one by one."""

from unmissed.errors import BadBook

STEP = 2


def blanks_ahead(line):
    """How many blanks a line begins with."""
    return len(line) - len(line.lstrip(" "))


class Page:
    """The lines of a text, and how many of them were taken."""

    def __init__(self, text):
        self.lines = text.split("\n")
        self.at = 0

    def is_done(self):
        """Whether all lines were taken."""
        return self.at == len(self.lines)

    def words(self, steps):
        """The words of the next line if it stands so many steps deep; otherwise, and at the end, []."""
        if self.is_done() or blanks_ahead(self.lines[self.at]) != steps * STEP:
            return []
        return self.lines[self.at].lstrip(" ").split(" ")

    def take(self, can_stand):
        """Goes behind the next line; raises BadBook, with the number of this line, if it cannot stand."""
        # At the end this is the number of the line that is missing.
        if not can_stand:
            raise BadBook(self.at + 1)
        self.at += 1
