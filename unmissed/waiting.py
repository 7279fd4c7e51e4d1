"""How many silent days are enough so that a door can be shut behind them."""

from unmissed.coming import MOST_ROWS, Search, StandRows, coming_behind, is_closed
from unmissed.copies import begun
from unmissed.courses import can_come_by
from unmissed.errors import BadReport
from unmissed.harming import shows_harms
from unmissed.lives import can_begin, outcomes_of
from unmissed.pasts import past_that_can_be
from unmissed.reports import days_of, has_some, is_report
from unmissed.rules import ANYBODY, ASKS, NONE, SHUT, fit_rules
from unmissed.rings import explored, leads_to_seen, ring_in, turns_to_seen
from unmissed.shutting import ShutRows, twins_of
from unmissed.twins import table_of
from unmissed.values import check_door, is_day, is_integer


def past_to_wait(book, door, history, report):
    """The past of a history behind which days with this report come."""
    check_door(book, door)
    reports = days_of(book, history)
    if not is_report(book, report) or has_some(report) or (ASKS, ANYBODY, NONE) not in report[1]:
        raise BadReport(report)
    return past_that_can_be(book, door, reports)


class Silence:
    """Days with one report, on each of which nobody is heard, behind a past."""

    def __init__(self, past, report):
        self.book = past.book
        self.rules = {name: fit_rules([report], name)[0] for name in past.book.clients}
        self.past = past
        self.kind = StandRows(coming_behind(past, past.book.clients), self.rules)
        self.search = Search(self.kind, MOST_ROWS)
        # Nothing is ever seen, since nobody asks: so this finds all rows.
        self.search.first_seen()
        shut = ShutRows(self.kind.coming)
        pairs = [row + row[2:] for row in self.search.came]
        # Each pair by which a user can be harmed, and by which turn next.
        self.leads = leads_to_seen(explored(shut, pairs, MOST_ROWS))

    def late(self):
        """A course that harms, begun on a day from settled on, of a copy that begins always; None if there is none."""
        for name in self.book.clients:
            first = begun(self.book[name])
            for day in range(self.book.settled, self.book.settled + self.book.rounds):
                row = (day, name, first, first)
                if self.book[name].begins is None and row in self.leads:
                    return name, day, turns_to_seen(self.leads, row)
        return None

    def ring(self):
        """(client, begin, ahead, ring, behind), as wait tells them; None if there is no ring."""
        rows = {row: True for row in self.search.came if row + row[2:] in self.leads}
        found = ring_in(self.kind, rows)
        if found is None:
            return None
        row, ring = found
        start, later, ahead = self.search.way(row)
        return self.kind.coming.course(start[1:], later, ahead) + (ring, turns_to_seen(self.leads, row + row[2:]))

    def course(self, coming):
        """A course that harms, of a copy that can come; None if there is none."""
        for later, name, stand in coming.all_starts():
            row = (coming.moment(later), name, stand, stand)
            if row in self.leads:
                return coming.course((name, stand), later, turns_to_seen(self.leads, row))
        return None

    def least(self):
        """(n, course, table), as wait tells them where there is such a number."""
        many = 0
        course = ()
        coming = self.kind.coming
        harming = self.course(coming)
        while harming is not None:
            many += 1
            course = harming
            coming = go_on(self.past, self.rules)
            harming = self.course(coming)
        search = Search(ShutRows(coming))
        search.first_seen()
        return many, course, table_of(search.came)


def go_on(past, rules):
    """The copies that can come one day later, behind a day with these rules; the past's walks go on with it."""
    for name in past.book.clients:
        past.been_walks[name].begin()
        past.been_walks[name].go_on(rules[name])
    return coming_behind(past, past.book.clients)


def wait(book, door, history, report):
    """How many days with this report are enough, behind a history, so that the door can be shut; or why none is."""
    silence = Silence(past_to_wait(book, door, history, report), report)
    late = silence.late()
    if late is not None:
        return "late", late
    ring = silence.ring()
    if ring is not None:
        return ("ring",) + ring
    return ("days",) + silence.least()


def shows_late(past, course):
    """Whether any value is a course that harms, begun on a day from settled on, of a copy that begins always."""
    if not isinstance(course, tuple) or len(course) != 3:
        return False
    name, begin, met = course
    if name not in past.book or not is_day(begin) or begin < past.book.settled or not isinstance(met, tuple):
        return False
    client = past.book[name]
    if client.begins is not None:
        return False
    twins = twins_of(client, past.door)
    return twins.are_apart_last(begin, twins.first, [SHUT] * len(met), met)


def shows_ring(past, report, value):
    """Whether any tuple (client, begin, ahead, ring, behind) is such a one as wait tells."""
    name, begin, ahead, ring, behind = value
    if not isinstance(ahead, tuple) or not isinstance(ring, tuple) or not isinstance(behind, tuple) or ring == ():
        return False
    life = (name, begin, ahead + ring)
    outcomes = outcomes_of(past.book, past.door, life)
    if outcomes is None or not can_come_by(past, life, outcomes, report):
        return False
    first = begin + len(ahead)
    if first < max(len(past.reports), past.book.settled) or len(ring) % past.book.rounds != 0:
        return False
    twins = twins_of(past.book[name], past.door)
    pairs = [twins.first] + [(outcome[0], outcome[0]) for outcome in outcomes]
    if pairs[len(ahead)] != pairs[-1]:
        return False
    return twins.are_apart_last(first + len(ring), pairs[-1], [SHUT] * len(behind), behind)


def shows_many(past, report, value):
    """Whether any tuple (n, course, table) is such a one as wait tells."""
    many, course, table = value
    if not is_integer(many) or many < 0:
        return False
    if many == 0 and course != ():
        return False
    if many > 0 and not shows_harms(past, course, report, many - 1):
        return False
    return shows_enough_days(past, report, many, table)


def shows_enough_days(past, report, many, table):
    """Whether any value is a closed table by which no user is harmed behind so many days with this report."""
    book = past.book
    kind = ShutRows(coming_behind(past, book.clients))
    begins = []
    for later in range(book.settled + book.rounds):
        day = len(past.reports) + many + later
        names = [name for name in book.clients if can_begin(book[name], day)]
        begins.extend([(book.moment(day), name) + kind.twins[name].first for name in names])
    # Ahead of the walk through all days: with a course that shows that n - 1 are not enough, this bounds n.
    if not is_closed(kind, begins, table):
        return False
    rules = {name: fit_rules([report], name)[0] for name in book.clients}
    for _ in range(many):
        go_on(past, rules)
    rows = {row: True for row in table}
    return not [row for row in ShutRows(coming_behind(past, book.clients)).starts(0) if row not in rows]


def shows_wait(book, door, history, report, value):
    """Whether any value is such a result as wait tells."""
    past = past_to_wait(book, door, history, report)
    if not isinstance(value, tuple):
        return False
    if len(value) == 2 and value[0] == "late":
        return shows_late(past, value[1])
    if len(value) == 6 and value[0] == "ring":
        return shows_ring(past, report, value[1:])
    return len(value) == 4 and value[0] == "days" and shows_many(past, report, value[1:])
