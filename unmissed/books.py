"""Books: calendars, doors and clients, read from a text line by line."""

from unmissed.errors import BadBook, BadDay, BadName, NoClient
from unmissed.heads import read_calendars, read_cells, read_client_name, read_doors
from unmissed.heads import read_sleeps, read_span, read_users, rounds_of
from unmissed.pages import Page
from unmissed.statements import Scope, asked_doors, read_day
from unmissed.values import is_day, names_of


class Client:
    """A client of a book; Books alone make Clients."""

    def __init__(self, book, page, ahead):
        """Reads the client off the page, ahead being the clients in front of it."""
        first = page.at
        calendars = names_of(book.calendars)
        has_one = any([client.is_one for client in ahead])
        self.book = book
        self.name = read_client_name(page, [client.name for client in ahead])
        self.begins, self.lives, self.is_one = read_span(page, not has_one)
        self.sleeps = read_sleeps(page)
        self.cells = read_cells(page, calendars)
        self.users = read_users(page, calendars + names_of(self.cells))
        self.day = read_day(page, Scope(book, self.cells, self.users))
        self.asks = tuple(sorted(set(asked_doors(self.day))))
        self.text = "\n".join(page.lines[first:page.at])

    def __eq__(self, other):
        return isinstance(other, Client) and self.book == other.book and self.name == other.name


def read_clients(page, book):
    """The clients that come next, up to the end of the page."""
    clients = []
    while not clients or not page.is_done():
        clients.append(Client(book, page, clients))
    return clients


class Book:
    """Calendars, doors and clients."""

    def __init__(self, text):
        if not isinstance(text, str):
            raise BadBook(0)
        page = Page(text)
        self.text = text
        self.calendars = read_calendars(page)
        self.doors = read_doors(page)
        self.rounds = rounds_of(self.calendars)
        members = read_clients(page, self)
        self.clients = tuple([member.name for member in members])
        # The line `one` counts as a begin on day 0: it never outdoes a line `begins until N`.
        self.settled = max([member.begins + 1 for member in members if member.begins is not None], default=0)
        self._members = {member.name: member for member in members}

    def worth(self, calendar, day):
        """The worth of a calendar on a day."""
        if calendar not in names_of(self.calendars):
            raise BadName(calendar)
        if not is_day(day):
            raise BadDay(day)
        return day % dict(self.calendars)[calendar]

    def moment(self, day):
        """The first day on which all that is still to come is as on this day."""
        if not is_day(day):
            raise BadDay(day)
        if day < self.settled:
            return day
        return self.settled + (day - self.settled) % self.rounds

    def __eq__(self, other):
        return isinstance(other, Book) and self.text == other.text

    def __len__(self):
        return len(self.clients)

    def __contains__(self, value):
        return value in self.clients

    def __getitem__(self, name):
        if name not in self.clients:
            raise NoClient(name)
        return self._members[name]

    def __iter__(self):
        raise TypeError("a book is not walked over")
