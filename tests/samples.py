"""Texts of books that several tests use, and what Book says of a text."""

from unmissed.books import Book
from unmissed.errors import BadBook, UnmissedError

# The example at the end of section 4.
SHOP = "\n".join([
    "door price 2",
    "client shop",
    "  begins until 3",
    "  lives always",
    "  sleeps 0",
    "  cell kept 2",
    "  day",
    "    ask price kept",
    "    else",
    "      cry",
    "    tell kept",
])

# The first text of section 4.
WEEK = "\n".join([
    "calendar week 7",
    "door price 2",
    "client shop",
    "  begins until 3",
    "  lives always",
    "  sleeps 0",
    "  cell kept 2",
    "  cell left 5",
    "  user press 2 within 3",
    "  day",
    "    if same(left, 0)",
    "      ask price kept",
    "      else",
    "        cry",
    "      set left 4",
    "    else",
    "      set left fewer(left)",
    "    tell kept",
])

# A client with as much of everything as there can be.
FULL = "\n".join([
    "calendar odd 2",
    "calendar week 5",
    "door price 3",
    "door stock 1",
    "client a",
    "  one",
    "  sleeps always",
    "  cell x 2",
    "  cell y 30",
    "  user press 2",
    "  user pull 3 within 4",
    "  day",
    "    repeat 3",
    "      if and(same(x, press), or(odd, not(week)))",
    "        ask stock",
    "        else",
    "          ask price y",
    "      else",
    "        stop",
    "    tell more(fewer(more(y)))",
    "    rest",
    "client b",
    "  begins always",
    "  lives 12",
    "  sleeps 3",
    "  day",
    "    tell 30",
    "client pricewar",
    "  begins until 12",
    "  lives 1",
    "  sleeps 0",
    "  cell a 30",
    "  cell stock 2",
    "  day",
    "    ask stock stock",
    "    set a less(a, stock)",
])


def fault(text):
    """The value of the BadBook that a text raises; None if it is a book."""
    try:
        Book(text)
    except BadBook as e:
        return e.value
    return None


def client(name, *lines):
    """The lines of a client that begins and lives always, with these lines behind `sleeps`."""
    return [f"client {name}", "  begins always", "  lives always", "  sleeps 0", *lines]


def book_of(*lines):
    """The text of a book with one door, price, and these lines behind it."""
    return "\n".join(["door price 2", *lines])


def day_of(*lines):
    """A text whose client has the cells x, y and the user u; its day's lines, from line DAY_LINE on, are these."""
    ahead = ["calendar week 7", "door price 2", "door stock 3"]
    heads = ["  cell x 2", "  cell y 5", "  user u 3", "  day"]
    return "\n".join(ahead + client("shop", *heads) + ["    " + line for line in lines])


DAY_LINE = 12


def book_with(*lines, lives="always", sleeps="0", begins="always", doors=("price 2",), calendars=(), heads=()):
    """A book with one client, shop, whose day has these lines."""
    ahead = [f"calendar {row}" for row in calendars] + [f"door {row}" for row in doors] + ["client shop"]
    ahead += ["  one"] if begins == "one" else [f"  begins {begins}", f"  lives {lives}"]
    ahead += [f"  sleeps {sleeps}"] + [f"  {row}" for row in heads] + ["  day"]
    return Book("\n".join(ahead + ["    " + line for line in lines]))


# Any value that is no integer, no tuple and no name of anything.
ODD_VALUES = [None, True, False, [], {}, "", "Shop", "shop ", [1], {"shop": 1}, ["shop"], [[[[]]]], {"a": [(1, {})]},
              Book(SHOP), Book(SHOP)["shop"]]


def raised(function, *arguments):
    """The name and the value of the error that a call raises; what it returns if it raises none."""
    try:
        return function(*arguments)
    except UnmissedError as error:
        return error.__class__.__name__, error.value
