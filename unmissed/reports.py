"""Reports of single days, and histories made of them."""

from unmissed.errors import BadHistory, BadLife, BadReport
from unmissed.lives import follows, outcomes_of
from unmissed.rules import ANYBODY, EARS, NONE, SOME, STATES, fit_rules
from unmissed.values import check_door, is_integer

MOST_LIKE = 60
MOST_PLANNED = 12


def is_ear(book, value):
    """Whether any value is (ear, who, word)."""
    if not isinstance(value, tuple) or len(value) != 3:
        return False
    ear, who, word = value
    if ear not in EARS:
        return False
    if who == ANYBODY:
        return word == NONE
    return who in book and word in (SOME, NONE)


def is_report(book, value):
    """Whether any value is a report, by its form alone."""
    if not isinstance(value, tuple) or len(value) != 2:
        return False
    state, ears = value
    if state not in STATES or not isinstance(ears, tuple) or not all([is_ear(book, ear) for ear in ears]):
        return False
    heads = [ear[:2] for ear in ears]
    return heads == sorted(set(heads))


def has_some(report):
    """Whether a report tells that something was heard."""
    return SOME in [word for _, _, word in report[1]]


def is_plan(book, value):
    """Whether any value is a plan, a tuple with a report for each of its days, on which nothing is heard."""
    if not isinstance(value, tuple) or len(value) > MOST_PLANNED:
        return False
    return all([is_report(book, report) and not has_some(report) for report in value])


def is_row(book, value):
    """Whether any value is a row of a history."""
    if not isinstance(value, tuple) or len(value) != 2:
        return False
    many, report = value
    return is_integer(many) and 1 <= many <= MOST_LIKE and is_report(book, report)


def is_history(book, value):
    """Whether any value is a history, by its form alone."""
    return isinstance(value, tuple) and all([is_row(book, row) for row in value])


def days_of(book, history):
    """The tuple with a report for each day of a history."""
    if not is_history(book, history):
        raise BadHistory(history)
    found = []
    for many, report in history:
        found.extend([report] * many)
    return tuple(found)


def folded(book, reports):
    """The history, with as few rows as possible, whose days have these reports."""
    if not isinstance(reports, tuple):
        raise BadReport(reports)
    rows = []
    for report in reports:
        if not is_report(book, report):
            raise BadReport(report)
        if rows and rows[-1][1] == report:
            rows[-1] = (rows[-1][0] + 1, report)
        else:
            rows.append((1, report))
    return tuple(rows)


def fits(book, door, history, life):
    """Whether a life fits a door and a history."""
    check_door(book, door)
    reports = days_of(book, history)
    outcomes = outcomes_of(book, door, life)
    if outcomes is None:
        raise BadLife(life)
    return follows(fit_rules(reports, life[0]), life, outcomes)
