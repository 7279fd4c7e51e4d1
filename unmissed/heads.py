"""The lines of a book ahead of a day's block: calendars, doors, and how a client is made."""

from math import lcm

from unmissed.values import names_of
from unmissed.words import is_name, read_figure

MOST_CALENDARS = 2
MOST_DOORS = 2
MOST_CLIENTS = 3
MOST_CELLS = 3
MOST_USERS = 2
MOST_ROUNDS = 30
MOST_CELL_STANDS = 60


def read_sized(words, word, low, high, taken):
    """(name, size) that a line `WORD NAME SIZE` tells; None if it does not, or the name is taken."""
    if len(words) != 3 or words[0] != word:
        return None
    size = read_figure(words[2], low, high)
    if size is None or not is_name(words[1]) or words[1] in taken:
        return None
    return words[1], size


def rounds_of(calendars):
    """After how many days all these calendars are as they were."""
    rounds = 1
    for _, size in calendars:
        rounds = lcm(rounds, size)
    return rounds


def read_calendars(page):
    """The calendars that come next, perhaps none."""
    calendars = []
    while len(calendars) < MOST_CALENDARS and page.words(0)[:1] == ["calendar"]:
        row = read_sized(page.words(0), "calendar", 2, 12, names_of(calendars))
        page.take(row is not None and rounds_of(calendars + [row]) <= MOST_ROUNDS)
        calendars.append(row)
    return tuple(calendars)


def read_doors(page):
    """The doors that come next, one at least."""
    doors = []
    while not doors or (len(doors) < MOST_DOORS and page.words(0)[:1] == ["door"]):
        row = read_sized(page.words(0), "door", 1, 3, names_of(doors))
        page.take(row is not None)
        doors.append(row)
    return tuple(doors)


def read_client_name(page, taken):
    """The name of the client that comes next."""
    words = page.words(0)
    is_right = len(words) == 2 and words[0] == "client" and is_name(words[1])
    page.take(is_right and words[1] not in taken and len(taken) < MOST_CLIENTS)
    return words[1]


def read_bound(page, words, low, high):
    """The N of a line, words being those ahead of it; None if `always` stands behind the first word."""
    found = page.words(1)
    if found == [words[0], "always"]:
        page.take(True)
        return None
    many = None
    if found[:-1] == words:
        many = read_figure(found[-1], low, high)
    page.take(many is not None)
    return many


def read_span(page, can_be_one):
    """(begins, lives, is_one) of a client, from the line `one` or the two lines in its place."""
    if page.words(1) == ["one"]:
        page.take(can_be_one)
        return 0, None, True
    begins = read_bound(page, ["begins", "until"], 0, 12)
    lives = read_bound(page, ["lives"], 1, 12)
    return begins, lives, False


def read_sleeps(page):
    """On how many days in a row a copy can be asleep, None for any."""
    return read_bound(page, ["sleeps"], 0, 3)


def read_cells(page, taken):
    """The cells that come next, perhaps none, with other names than those that are taken."""
    cells = []
    stands = 1
    while len(cells) < MOST_CELLS and page.words(1)[:1] == ["cell"]:
        row = read_sized(page.words(1), "cell", 2, 30, taken + names_of(cells))
        page.take(row is not None and stands * row[1] <= MOST_CELL_STANDS)
        stands = stands * row[1]
        cells.append(row)
    return tuple(cells)


def read_within(words):
    """The K that the words `within K` tell; None if they tell none."""
    if len(words) != 2 or words[0] != "within":
        return None
    return read_figure(words[1], 1, 4)


def read_user(words, taken):
    """(name, size, within) that the line of a user tells; None if it does not, or the name is taken."""
    row = read_sized(words[:3], "user", 2, 3, taken)
    within = 0
    if len(words) != 3:
        within = read_within(words[3:])
    if row is None or within is None:
        return None
    return row + (within,)


def read_users(page, taken):
    """The users that come next, perhaps none, with other names than those that are taken."""
    users = []
    while len(users) < MOST_USERS and page.words(1)[:1] == ["user"]:
        row = read_user(page.words(1), taken + names_of(users))
        page.take(row is not None)
        users.append(row)
    return tuple(users)
