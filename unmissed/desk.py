"""A desk: a watch that is asked, and told, by lines."""

from unmissed.deeds import do_deed, read_deed
from unmissed.errors import BadLine, CannotBe
from unmissed.journals import read_journal
from unmissed.texts import report_of, show_report
from unmissed.words import is_name, read_figure

LAST_DAY = 60
SINGLE = ("undo", "redo", "asked", "harm", "journal")


def last_day(life):
    """The day of the last turn of a life or a course."""
    _, begin, met = life
    return begin + len(met) - 1


def read_line(book, line):
    """(word, what is told behind it) of any value that is a line of a desk; BadLine for others."""
    if not isinstance(line, str):
        raise BadLine(line)
    if line in SINGLE:
        return line, None
    word, _, told = line.partition(" ")
    thing = None
    if word in ("day", "late"):
        thing = read_deed(book, line)
    elif word == "stands" and is_name(told):
        thing = told
    elif word == "wait":
        thing = report_of(book, told)
    elif word == "report":
        thing = read_figure(told, 0, LAST_DAY)
    if thing is None:
        raise BadLine(line)
    return word, thing


class Desk:
    """A watch, by its journal."""

    def __init__(self, lines):
        self.watch = read_journal(lines)

    def say(self, line):
        """The answer to a line."""
        word, thing = read_line(self.watch.book, line)
        if word in ("day", "late"):
            return self.do(thing)
        if word == "undo":
            self.watch.undo()
            return "done"
        if word == "redo":
            self.watch.redo()
            return "done"
        if word == "stands":
            return str(len(self.watch.stands(thing)))
        if word == "asked":
            return self.tell_asked()
        if word == "harm":
            return self.tell_harm()
        if word == "wait":
            return self.tell_wait(thing)
        if word == "report":
            return show_report(self.watch[thing])
        return " ; ".join(self.watch.journal)

    def do(self, deed):
        """Does a deed, and tells whether it can be."""
        try:
            do_deed(self.watch, deed)
        except CannotBe:
            return "cannot"
        return "done"

    def tell_asked(self):
        """Whether, and when first, the door is still asked."""
        word, shown = self.watch.still_asked()
        return word if word == "never" else f"day {last_day(shown)}"

    def tell_harm(self):
        """Whether, and when first, a user is harmed; and whose users are."""
        word, shown = self.watch.harm()
        if word == "harmless":
            return word
        names = ",".join(self.watch.harmed())
        return f"day {last_day(shown)} {names}"

    def tell_wait(self, report):
        """How many days of a report are enough, or why none is."""
        told = self.watch.wait(report)
        return f"days {told[1]}" if told[0] == "days" else told[0]
