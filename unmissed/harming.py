"""Whether a user is harmed by a door that is shut for ever, or by a plan."""

from unmissed.coming import MOST_ROWS, Search, coming_behind, is_closed
from unmissed.courses import NO_EARS, parts_of_course
from unmissed.errors import BadPlan
from unmissed.pasts import past_that_can_be
from unmissed.reports import days_of, is_plan
from unmissed.rules import SHUT
from unmissed.shutting import ShutRows, TrialRows, twins_of
from unmissed.twins import table_of
from unmissed.values import check_door


def first_course(search):
    """The course by which a user sees a difference first, by a search in rows of pairs; None if there is none."""
    found = search.first_seen()
    if found is None:
        return None
    row, turn = found
    start, later, ahead = search.way(row)
    return search.kind.coming.course(start[1:3], later, ahead + (turn,))


def told_harm(past):
    """What harm tells of a history, by its past."""
    search = Search(ShutRows(coming_behind(past, past.book.clients)), MOST_ROWS)
    course = first_course(search)
    if course is None:
        return "harmless", table_of(search.came)
    return "harms", course


def harm(book, door, history):
    """What shows that no user is ever harmed with the door shut from now on, or a course that harms one first."""
    check_door(book, door)
    return told_harm(past_that_can_be(book, door, days_of(book, history)))


def shows_harmless(past, table):
    """Whether any value is a closed table of rows by which no user is ever harmed."""
    kind = ShutRows(coming_behind(past, past.book.clients))
    return is_closed(kind, kind.all_starts(), table)


def shows_harms(past, course, report=NO_EARS, many=0):
    """Whether any value is a course on the last day of which, and not ahead, its user is harmed.

    The door is shut from the morning on behind so many days with this report, behind the history.
    """
    parts = parts_of_course(past, course, report, many)
    if parts is None:
        return False
    client, day, stand, met = parts
    return twins_of(client, past.door).are_apart_last(day, (stand, stand), [SHUT] * len(met), met)


def shows_harm(book, door, history, value):
    """Whether any value is such a result as harm tells."""
    check_door(book, door)
    past = past_that_can_be(book, door, days_of(book, history))
    if not isinstance(value, tuple) or len(value) != 2:
        return False
    if value[0] == "harmless":
        return shows_harmless(past, value[1])
    return value[0] == "harms" and shows_harms(past, value[1])


def harmed(book, door, history):
    """The ascending tuple of the clients a copy of which can be harmed with the door shut from now on."""
    check_door(book, door)
    past = past_that_can_be(book, door, days_of(book, history))
    found = []
    for name in book.clients:
        search = Search(ShutRows(coming_behind(past, [name])), MOST_ROWS)
        if search.first_seen() is not None:
            found.append(name)
    return tuple(sorted(found))


def first_hurt(past, plan, most=None):
    """The course by which a plan shows a user another thing first; None if it is gentle."""
    return first_course(Search(TrialRows(coming_behind(past, past.book.clients), plan), most))


def past_to_try(book, door, history, plan):
    """The past of a history behind which there comes a plan."""
    check_door(book, door)
    reports = days_of(book, history)
    if not is_plan(book, plan):
        raise BadPlan(plan)
    return past_that_can_be(book, door, reports)


def hurts(book, door, history, plan):
    """Whether a plan shows no user another thing while it goes on; if it does, a course of the first one."""
    course = first_hurt(past_to_try(book, door, history, plan), plan, MOST_ROWS)
    if course is None:
        return ("gentle",)
    return "hurts", course


def shows_course_of_hurt(past, plan, course):
    """Whether any value is a course on whose last day, and not ahead, a plan shows its user another thing."""
    parts = parts_of_course(past, course)
    if parts is None:
        return False
    client, day, stand, met = parts
    states = [report[0] for report in plan[day - len(past.reports):]]
    return twins_of(client, past.door).are_apart_last(day, (stand, stand), states, met)


def shows_hurts(book, door, history, plan, value):
    """Whether any value is such a result as hurts tells."""
    past = past_to_try(book, door, history, plan)
    if not isinstance(value, tuple):
        return False
    if len(value) == 2 and value[0] == "hurts":
        return shows_course_of_hurt(past, plan, value[1])
    return value == ("gentle",) and first_hurt(past, plan) is None
