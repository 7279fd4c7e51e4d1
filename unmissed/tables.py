"""Tables with a tuple of rows for each morning, closed under a day."""

from unmissed.lives import can_begin


def mornings_of(client, many, first, rows_behind):
    """For each morning, from that of day 0 to that behind so many days, a dict of the rows that come.

    Copies begin with the row first; rows_behind tells, of a day and a row, which rows come from it.
    """
    mornings = []
    here = {}
    for day in range(many):
        if can_begin(client, day):
            here[first] = True
        mornings.append(here)
        here = {come: True for row in here for come in rows_behind(day, row)}
    return mornings + [here]


def is_table(value, many, is_row):
    """Whether any value is a tuple with a tuple of rows for each of so many mornings."""
    if not isinstance(value, tuple) or len(value) != many:
        return False
    for morning in value:
        if not isinstance(morning, tuple) or not all([is_row(row) for row in morning]):
            return False
    return True


def is_closed(table, client, first, rows_behind):
    """Whether a table has in each morning those that begin, and what comes from the rows of the one ahead."""
    for day in range(len(table) - 1):
        if can_begin(client, day) and first not in table[day]:
            return False
        behind = {row: True for row in table[day + 1]}
        for row in table[day]:
            if [come for come in rows_behind(day, row) if come not in behind]:
                return False
    return True
