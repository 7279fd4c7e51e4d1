"""Reports of single days, and histories made of them."""

from unmissed.errors import BadHistory, BadLife, BadReport
from unmissed.lives import follows, outcomes_of
from unmissed.rules import ANYBODY, EARS, NONE, SOME, STATES, fit_rules
from unmissed.values import check_door, is_integer
from unmissed.words import is_name

MOST_LIKE = 60
MOST_PLANNED = 12


def is_ear(value):
    """Whether any value is (ear, who, word), who being "*" or any name."""
    if not isinstance(value, tuple) or len(value) != 3:
        return False
    ear, who, word = value
    if ear not in EARS:
        return False
    if who == ANYBODY:
        return word == NONE
    return isinstance(who, str) and is_name(who) and word in (SOME, NONE)


def has_form(value):
    """Whether any value is a report by its form, who being "*" or any name."""
    if not isinstance(value, tuple) or len(value) != 2:
        return False
    state, ears = value
    if state not in STATES or not isinstance(ears, tuple) or not all([is_ear(ear) for ear in ears]):
        return False
    heads = [ear[:2] for ear in ears]
    return heads == sorted(set(heads))


def is_report(book, value):
    """Whether any value is a report, by its form alone."""
    return has_form(value) and all([who == ANYBODY or who in book for _, who, _ in value[1]])


def has_some(report):
    """Whether a report tells that something was heard."""
    return SOME in [word for _, _, word in report[1]]


def is_plan(book, value):
    """Whether any value is a plan, a tuple with a report for each of its days, on which nothing is heard."""
    if not isinstance(value, tuple) or len(value) > MOST_PLANNED:
        return False
    return all([is_report(book, report) and not has_some(report) for report in value])


def is_row(book, value):
    """Whether any value is a row of a history."""
    if not isinstance(value, tuple) or len(value) != 2:
        return False
    many, report = value
    return is_integer(many) and 1 <= many <= MOST_LIKE and is_report(book, report)


def is_history(book, value):
    """Whether any value is a history, by its form alone."""
    return isinstance(value, tuple) and all([is_row(book, row) for row in value])


def days_of(book, history):
    """The tuple with a report for each day of a history."""
    if not is_history(book, history):
        raise BadHistory(history)
    found = []
    for many, report in history:
        found.extend([report] * many)
    return tuple(found)


def fold(reports):
    """The history, with as few rows as possible, whose days have these reports."""
    rows = []
    for report in reports:
        # No row of a history has more days; a watch may have.
        if rows and rows[-1][1] == report and rows[-1][0] < MOST_LIKE:
            rows[-1] = (rows[-1][0] + 1, report)
        else:
            rows.append((1, report))
    return tuple(rows)


def folded(book, reports):
    """The history, with as few rows as possible, whose days have these reports."""
    if not isinstance(reports, tuple):
        raise BadReport(reports)
    wrong = [report for report in reports if not is_report(book, report)]
    if wrong:
        raise BadReport(wrong[0])
    return fold(reports)


def fits(book, door, history, life):
    """Whether a life fits a door and a history."""
    check_door(book, door)
    reports = days_of(book, history)
    outcomes = outcomes_of(book, door, life)
    if outcomes is None:
        raise BadLife(life)
    return follows(fit_rules(reports, life[0]), life, outcomes)
