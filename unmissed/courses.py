"""Courses: what any value tells of a copy that goes on with the door shut."""

from unmissed.copies import begun
from unmissed.lives import can_begin, follows, outcomes_of
from unmissed.rules import been_rules, done_of, fit_rules
from unmissed.values import is_day

# A report by which nobody listened.
NO_EARS = ("open", ())


def can_come_by(past, life, outcomes, report):
    """Whether a life, with its outcomes, can have been; behind the history each day has this report."""
    name, begin, met = life
    if not follows(been_rules(past.reports, past.book[name]), life, outcomes):
        return False
    rule = fit_rules([report], name)[0]
    first = max(len(past.reports) - begin, 0)
    return all([rule.lets(met[at], done_of(outcomes[at])) for at in range(first, len(met))])


def parts_of_course(past, value, report=NO_EARS, many=0):
    """(client, day, stand, turns) of any value that is a course by what it tells up to a morning.

    The morning is that behind the history and so many days more, which have this report, or that of the copy's
    begin, if it is later. day and stand are those of the morning, turns those that follow. None for other values.
    """
    if not isinstance(value, tuple) or len(value) != 3:
        return None
    name, begin, met = value
    if name not in past.book or not is_day(begin) or not isinstance(met, tuple):
        return None
    client = past.book[name]
    now = len(past.reports) + many
    if not can_begin(client, begin):
        return None
    if begin >= now:
        return client, begin, begun(client), met
    ahead = (name, begin, met[:now - begin])
    outcomes = outcomes_of(past.book, past.door, ahead)
    if outcomes is None or len(outcomes) < now - begin or outcomes[-1][0] is None:
        return None
    if not can_come_by(past, ahead, outcomes, report):
        return None
    return client, now, outcomes[-1][0], met[now - begin:]
