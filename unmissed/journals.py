"""Journals: watches as lines."""

from unmissed.books import Book
from unmissed.deeds import do_deed, read_deed, read_many, read_row
from unmissed.errors import BadBook, BadLines, CannotBe, NoDay, TooMany
from unmissed.values import names_of
from unmissed.watches import Watch

WATCH = "watch"


def is_line(value):
    """Whether any value is a single line."""
    return isinstance(value, str) and "\n" not in value


def many_of_book(lines):
    """How many items stand ahead of the first one that begins with `watch`, or is no line."""
    at = 0
    while at < len(lines) and is_line(lines[at]) and lines[at].split(" ")[0] != WATCH:
        at += 1
    return at


def read_book(lines):
    """The book whose lines these are; BadLines as BadBook."""
    try:
        return Book("\n".join(lines))
    except BadBook as e:
        raise BadLines(e.value)


def read_door(book, line):
    """The door that a line `watch DOOR` names; None for any other value."""
    found = [door for door in names_of(book.doors) if line == f"{WATCH} {door}"]
    return found[0] if found else None


class DeedReader:
    """Reads the deeds that stand behind the line `watch`."""

    def __init__(self, book, lines, at):
        self.book = book
        self.lines = lines
        self.at = at

    def line(self):
        """The next line; BadLines if there is none."""
        if self.at == len(self.lines) or not is_line(self.lines[self.at]):
            raise BadLines(self.at + 1)
        return self.lines[self.at]

    def take(self, read):
        """Goes behind a line of which this was read; raises BadLines, with the number of the line, if it is None."""
        if read is None:
            raise BadLines(self.at + 1)
        self.at += 1
        return read

    def read_history(self, many):
        """The history whose so many rows come next."""
        return tuple([self.take(read_row(self.book, self.line())) for _ in range(many)])

    def read_deeds(self):
        """A list of (number of its line, deed, history): the deed is None of a history that was added."""
        found = []
        while self.at < len(self.lines):
            number = self.at + 1
            many = read_many(self.line())
            if many is None:
                found.append((number, self.take(read_deed(self.book, self.line())), ()))
            else:
                self.take(many)
                found.append((number, None, self.read_history(many)))
        return found


def do_read(watch, deed, history):
    """Does a deed that was read."""
    if deed is not None:
        do_deed(watch, deed)
    else:
        watch += history


def read_journal(lines):
    """The watch by which the deeds of a journal were done."""
    if not isinstance(lines, tuple):
        raise BadLines(0)
    many = many_of_book(lines)
    book = read_book(lines[:many])
    door = read_door(book, lines[many]) if many < len(lines) else None
    if door is None:
        raise BadLines(many + 1)
    watch = Watch(book, door)
    for number, deed, history in DeedReader(book, lines, many + 1).read_deeds():
        try:
            do_read(watch, deed, history)
        except (NoDay, TooMany, CannotBe):
            raise BadLines(number)
    return watch
