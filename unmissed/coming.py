"""What can come: the copies that can, and the rows that come of them, morning by morning."""

from unmissed.copies import begun, is_stand
from unmissed.errors import TooMany
from unmissed.lives import can_begin
from unmissed.rules import ASKS
from unmissed.values import is_integer

MOST_ROWS = 1500


class Coming:
    """The copies that can come: those that are there in the last morning of these walks, and those that begin then
    or later."""

    def __init__(self, book, door, walks):
        """walks is a dict: the name of a client -> its Walk, all of them as long."""
        self.book = book
        self.door = door
        self.walks = walks
        self.day = max([len(walk.mornings) for walk in walks.values()]) - 1

    def starts(self, later):
        """The list of (client, stand) with which copies begin to come, so many days behind the first one."""
        found = []
        for name, walk in self.walks.items():
            if later == 0:
                found.extend([(name, stand) for stand in walk.mornings[self.day] if stand is not None])
            if can_begin(walk.copies.client, self.day + later):
                found.append((name, begun(walk.copies.client)))
        return found

    def all_starts(self):
        """The list of (days later, client, stand) with which copies begin to come, on any day."""
        found = []
        # Behind so many days all moments that are still to come have been.
        for later in range(self.book.settled + self.book.rounds):
            found.extend([(later, name, stand) for name, stand in self.starts(later)])
        return found

    def moment(self, later):
        """The moment of a day so many days behind the first one."""
        return self.book.moment(self.day + later)

    def course(self, start, later, turns):
        """(client, begin, turns) of a copy that begins to come so, (client, stand) being its start, with these turns
        from then on."""
        name, stand = start
        walk = self.walks[name]
        if later == 0 and stand in walk.mornings[self.day]:
            _, begin, ahead = walk.life(self.day, stand)
            return name, begin, ahead + turns
        return name, self.day + later, turns


def coming_behind(past, names):
    """The copies of these clients that can come behind a past."""
    return Coming(past.book, past.door, {name: past.been_walks[name] for name in names})


def is_moment_of(book, client, value):
    """Whether any values are a moment of the book and a client of it."""
    return is_integer(value) and 0 <= value < book.settled + book.rounds and client in book


class StandRows:
    """The rows (moment, client, stand) that come by rules, one for each client, that all days follow."""

    def __init__(self, coming, rules):
        self.coming = coming
        self.book = coming.book
        self.rules = rules

    def starts(self, later):
        """The rows with which copies begin to come, so many days behind the first one."""
        moment = self.coming.moment(later)
        return [(moment, name, stand) for name, stand in self.coming.starts(later)]

    def all_starts(self):
        """The rows with which copies begin to come, on any day."""
        return [(self.coming.moment(later), name, stand) for later, name, stand in self.coming.all_starts()]

    def steps(self, row):
        """A list of (turn, row behind, whether the door is asked), the row being None of who is gone."""
        moment, name, stand = row
        then = self.book.moment(moment + 1)
        found = []
        for turn, behind, done in self.coming.walks[name].copies.steps_by(self.rules[name], moment, stand):
            found.append((turn, None if behind is None else (then, name, behind), ASKS in done))
        return found

    def is_row(self, value):
        """Whether any value is a row by its form."""
        if not isinstance(value, tuple) or len(value) != 3:
            return False
        moment, name, stand = value
        return is_moment_of(self.book, name, moment) and is_stand(self.book[name], stand)


class Search:
    """The rows of one kind that come, morning by morning, each looked at in the first morning in which it comes.

    A kind, as StandRows is one, has starts and steps; its steps tell by which turns something is seen.
    """

    def __init__(self, kind, most=None):
        """TooMany if in some morning more rows than most have come, None being any number."""
        self.kind = kind
        self.most = most
        # A row -> (the row ahead, the turn between); where copies begin to come, (None, how many days later).
        self.came = {}
        self.fresh = []

    def add(self, row, how):
        """Adds a row, if it did not come ahead."""
        if row not in self.came:
            self.came[row] = how
            self.fresh.append(row)

    def begin_day(self, later, behind):
        """Goes on to a morning, behind being the list of (row, how it comes) of the day ahead."""
        self.fresh = []
        for row, how in behind:
            self.add(row, how)
        for row in self.kind.starts(later):
            self.add(row, (None, later))
        if self.most is not None and len(self.came) > self.most:
            raise TooMany(self.most)

    def first_seen(self):
        """(row, turn) by which something is seen first; None, behind all rows, if nothing ever is."""
        later = 0
        self.begin_day(later, [])
        # A morning without fresh rows is the last one: from then on copies begin as others did ahead of them.
        while self.fresh:
            behind = []
            for row in self.fresh:
                for turn, come, is_seen in self.kind.steps(row):
                    if is_seen:
                        return row, turn
                    if come is not None:
                        behind.append((come, (row, turn)))
            later += 1
            self.begin_day(later, behind)
        return None

    def way(self, row):
        """(start, later, turns): how a row came, later telling how many days behind the first one it started."""
        turns = []
        ahead, how = self.came[row]
        while ahead is not None:
            turns.append(how)
            row = ahead
            ahead, how = self.came[row]
        return row, how, tuple(turns[::-1])


def is_closed(kind, starts, value):
    """Whether any value is a tuple of rows of this kind by which nothing is seen, with these ones and all that come."""
    if not isinstance(value, tuple) or not all([kind.is_row(row) for row in value]):
        return False
    rows = {row: True for row in value}
    if [row for row in starts if row not in rows]:
        return False
    for row in rows:
        for _, come, is_seen in kind.steps(row):
            if is_seen or (come is not None and come not in rows):
                return False
    return True
