"""Whether two clients can be told apart."""

from unmissed.coming import MOST_ROWS, Search, is_closed
from unmissed.errors import BadEyes, BadState, UnlikeClients
from unmissed.rules import STATES
from unmissed.twins import BOTH_GONE, EYES, Twins, table_of
from unmissed.values import check_door, is_integer


class PhaseRows:
    """The rows (phase, first, second) that come of two copies that begin on one day, on all days of one state."""

    def __init__(self, twins, state):
        self.twins = twins
        self.state = state
        self.rounds = twins.rounds

    def all_starts(self):
        """The rows with which copies begin."""
        return [(phase,) + self.twins.first for phase in range(self.rounds)]

    def starts(self, later):
        """The rows with which copies begin, all of them at once."""
        return self.all_starts() if later == 0 else []

    def steps(self, row):
        """A list of (turn, row behind, whether the eyes see a difference); None of those of which both are gone."""
        phase, first, second = row
        then = (phase + 1) % self.rounds
        found = []
        for turn, pair, is_apart in self.twins.steps(self.state, phase, (first, second)):
            found.append((turn, None if pair == BOTH_GONE else (then,) + pair, is_apart))
        return found

    def is_row(self, value):
        """Whether any value is a row by its form."""
        if not isinstance(value, tuple) or len(value) != 3:
            return False
        phase, first, second = value
        return is_integer(phase) and 0 <= phase < self.rounds and self.twins.is_pair(first, second)


def like_of(client):
    """What has to be the same of two clients that are compared."""
    return [row[1:] for row in client.users], client.sleeps, client.lives


def rows_of_both(book, one, other, door, state, eyes):
    """The rows of a copy of each of both clients; all errors of parted but TooMany."""
    clients = (book[one], book[other])
    if like_of(clients[0]) != like_of(clients[1]):
        raise UnlikeClients((one, other))
    check_door(book, door)
    if state not in STATES:
        raise BadState(state)
    if eyes not in EYES:
        raise BadEyes(eyes)
    return PhaseRows(Twins(clients, door, eyes, False), state)


def parted(book, one, other, door, state, eyes):
    """What shows that those who look can never tell two clients apart, or the fewest turns by which they can."""
    kind = rows_of_both(book, one, other, door, state, eyes)
    search = Search(kind, MOST_ROWS)
    found = search.first_seen()
    if found is None:
        return "alike", table_of(search.came)
    row, turn = found
    start, _, ahead = search.way(row)
    return "parted", start[0], ahead + (turn,)


def shows_parted(book, one, other, door, state, eyes, value):
    """Whether any value is such a result as parted tells."""
    kind = rows_of_both(book, one, other, door, state, eyes)
    if not isinstance(value, tuple):
        return False
    if len(value) == 2 and value[0] == "alike":
        return is_closed(kind, kind.all_starts(), value[1])
    if len(value) != 3 or value[0] != "parted":
        return False
    _, begin, met = value
    if not is_integer(begin) or not 0 <= begin < kind.rounds or not isinstance(met, tuple):
        return False
    return kind.twins.are_apart_last(begin, kind.twins.first, [state] * len(met), met)
