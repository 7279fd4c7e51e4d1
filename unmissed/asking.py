"""Whether a door can still be asked, from now on."""

from unmissed.copies import Copies, begun, is_stand
from unmissed.errors import TooMany
from unmissed.lives import can_begin, follows, outcomes_of
from unmissed.pasts import past_that_can_be
from unmissed.reports import days_of
from unmissed.rules import ASKS, Rule, been_rules
from unmissed.values import check_door, is_integer

MOST_ROWS = 1500


class Future:
    """The rows (moment, client, stand) that come behind a past, day by day, while the door is open."""

    def __init__(self, past):
        self.book = past.book
        self.day = len(past.reports)
        self.rule = Rule("open")
        self.rows = {}
        # These go on from here; nothing else looks at the past any more.
        self.walks = [past.been_walks[name] for name in past.book.clients]

    def begin_day(self):
        """Keeps of the day's morning what did not come ahead; tells whether there is anything."""
        moment = self.book.moment(self.day)
        many = len(self.rows)
        for walk in self.walks:
            walk.begin()
            name = walk.copies.client.name
            here = walk.mornings[-1]
            fresh = [stand for stand in here if stand is not None and (moment, name, stand) not in self.rows]
            walk.mornings[-1] = {stand: here[stand] for stand in fresh}
            for stand in fresh:
                self.rows[(moment, name, stand)] = True
        if len(self.rows) > MOST_ROWS:
            raise TooMany(MOST_ROWS)
        return len(self.rows) > many

    def asking_life(self):
        """A life that asks on this day; None if there is none."""
        for walk in self.walks:
            for stand in walk.mornings[-1]:
                for turn, _, done in walk.copies.steps_by(self.rule, self.day, stand):
                    if ASKS in done:
                        client, begin, ahead = walk.life(self.day, stand)
                        return client, begin, ahead + (turn,)
        return None

    def end_day(self):
        """Goes on to the next morning."""
        for walk in self.walks:
            walk.go_on(self.rule)
        self.day += 1


def still_asked(book, door, history):
    """What shows that no copy that can come ever asks the door, or a life that asks it first."""
    check_door(book, door)
    future = Future(past_that_can_be(book, door, days_of(book, history)))
    # What came ahead led to what came ahead: so copies that begin for the first time are new rows, too.
    while future.begin_day():
        life = future.asking_life()
        if life is not None:
            return "asks", life
        future.end_day()
    return "never", tuple(sorted(list(future.rows)))


def first_rows(past):
    """The rows with which copies that can come begin to: behind the history, or on the day of their begin."""
    book = past.book
    now = len(past.reports)
    found = []
    for name in book.clients:
        there = past.been_walks[name].mornings[now]
        found.extend([(book.moment(now), name, stand) for stand in there if stand is not None])
        # Behind so many days all moments that are still to come have been.
        days = [day for day in range(now, now + book.settled + book.rounds) if can_begin(book[name], day)]
        found.extend([(book.moment(day), name, begun(book[name])) for day in days])
    return found


def is_row(book, value):
    """Whether any value is a row (moment, client, stand) by its form."""
    if not isinstance(value, tuple) or len(value) != 3:
        return False
    moment, name, stand = value
    if not is_integer(moment) or not 0 <= moment < book.settled + book.rounds or name not in book:
        return False
    return is_stand(book[name], stand)


def is_closed_row(book, copies, rows, row):
    """Whether what comes from a row on an open day is among the rows, and nothing of it asks."""
    moment, name, stand = row
    for _, behind, done in copies[name].steps_by(Rule("open"), moment, stand):
        if ASKS in done:
            return False
        if behind is not None and (book.moment(moment + 1), name, behind) not in rows:
            return False
    return True


def shows_never(past, table):
    """Whether any value is a closed table of rows of which none asks."""
    book = past.book
    if not isinstance(table, tuple) or not all([is_row(book, row) for row in table]):
        return False
    rows = {row: True for row in table}
    if [row for row in first_rows(past) if row not in rows]:
        return False
    copies = {name: Copies(book, past.door, name) for name in book.clients}
    return all([is_closed_row(book, copies, rows, row) for row in rows])


def shows_asks(past, life):
    """Whether any value is the life of a copy that can come, which asks on its last day, behind the history."""
    outcomes = outcomes_of(past.book, past.door, life)
    if outcomes is None or not follows(been_rules(past.reports, past.book[life[0]]), life, outcomes):
        return False
    _, begin, met = life
    many_behind = begin + len(met) - max(begin, len(past.reports))
    if many_behind <= 0 or not outcomes[-1][2]:
        return False
    rule = Rule("open")
    return all([rule.lets(turn, ()) for turn in met[len(met) - many_behind:]])


def shows_still_asked(book, door, history, value):
    """Whether any value is such a result as still_asked tells."""
    check_door(book, door)
    past = past_that_can_be(book, door, days_of(book, history))
    if not isinstance(value, tuple) or len(value) != 2:
        return False
    if value[0] == "never":
        return shows_never(past, value[1])
    return value[0] == "asks" and shows_asks(past, value[1])
