"""Whether a door can still be asked, from now on."""

from unmissed.coming import MOST_ROWS, Search, StandRows, coming_behind, is_closed
from unmissed.lives import follows, outcomes_of
from unmissed.pasts import past_that_can_be
from unmissed.reports import days_of
from unmissed.rules import OPEN, Rule, been_rules
from unmissed.values import check_door


def rows_ahead(past):
    """The rows (moment, client, stand) that come behind a past while the door is open."""
    names = past.book.clients
    return StandRows(coming_behind(past, names), {name: Rule(OPEN) for name in names})


def still_asked(book, door, history):
    """What shows that no copy that can come ever asks the door, or a life that asks it first."""
    check_door(book, door)
    kind = rows_ahead(past_that_can_be(book, door, days_of(book, history)))
    search = Search(kind, MOST_ROWS)
    found = search.first_seen()
    if found is None:
        return "never", tuple(sorted(list(search.came)))
    row, turn = found
    start, later, ahead = search.way(row)
    return "asks", kind.coming.course(start[1:], later, ahead + (turn,))


def shows_asks(past, life):
    """Whether any value is the life of a copy that can come, which asks on its last day, behind the history."""
    outcomes = outcomes_of(past.book, past.door, life)
    if outcomes is None or not follows(been_rules(past.reports, past.book[life[0]]), life, outcomes):
        return False
    _, begin, met = life
    many_behind = begin + len(met) - max(begin, len(past.reports))
    if many_behind <= 0 or not outcomes[-1][2]:
        return False
    rule = Rule(OPEN)
    return all([rule.lets(turn, ()) for turn in met[len(met) - many_behind:]])


def shows_still_asked(book, door, history, value):
    """Whether any value is such a result as still_asked tells."""
    check_door(book, door)
    past = past_that_can_be(book, door, days_of(book, history))
    if not isinstance(value, tuple) or len(value) != 2:
        return False
    if value[0] == "never":
        kind = rows_ahead(past)
        return is_closed(kind, kind.all_starts(), value[1])
    return value[0] == "asks" and shows_asks(past, value[1])
