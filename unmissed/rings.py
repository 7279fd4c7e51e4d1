"""Rows that come from others: how they lead to what is seen, and in rings."""

from unmissed.errors import TooMany


def explored(kind, starts, most):
    """A dict: each row that comes from these ones by turns by which nothing is seen -> its steps.

    TooMany if there are more than most.
    """
    found = {}
    fresh = {row: True for row in starts}
    while fresh:
        for row in fresh:
            found[row] = []
        if len(found) > most:
            raise TooMany(most)
        behind = {}
        for row in fresh:
            found[row] = kind.steps(row)
            for _, come, is_seen in found[row]:
                if come is not None and not is_seen and come not in found:
                    behind[come] = True
        fresh = behind
    return found


def leads_to_seen(steps):
    """A dict: each row from which one can come to something seen -> (turn, row behind), None if it is seen by it."""
    leads = {}
    ahead = {}
    for row, found in steps.items():
        for turn, come, is_seen in found:
            if is_seen:
                leads.setdefault(row, (turn, None))
            elif come is not None:
                ahead.setdefault(come, []).append((row, turn))
    fresh = list(leads)
    while fresh:
        more = []
        for row in fresh:
            for before, turn in ahead.get(row, []):
                if before not in leads:
                    leads[before] = (turn, row)
                    more.append(before)
        fresh = more
    return leads


def turns_to_seen(leads, row):
    """The turns from a row on to what is seen."""
    found = []
    while row is not None:
        turn, row = leads[row]
        found.append(turn)
    return tuple(found)


def endless(nexts):
    """A dict of those rows, each with its list of (turn, row behind), from which one can go on for ever."""
    many = {row: len(found) for row, found in nexts.items()}
    ahead = {}
    for row, found in nexts.items():
        for _, come in found:
            ahead.setdefault(come, []).append(row)
    ended = [row for row in many if many[row] == 0]
    while ended:
        more = []
        for row in ended:
            for before in ahead.get(row, []):
                many[before] -= 1
                if many[before] == 0:
                    more.append(before)
        ended = more
    return {row: [step for step in nexts[row] if many[step[1]] > 0] for row in nexts if many[row] > 0}


def ring_in(kind, rows):
    """(row, turns): turns by which one comes from a row to itself, through these rows alone; None if none do."""
    nexts = {}
    for row in rows:
        nexts[row] = [(turn, come) for turn, come, _ in kind.steps(row) if come in rows]
    left = endless(nexts)
    if not left:
        return None
    row = list(left)[0]
    numbers = {}
    turns = []
    while row not in numbers:
        numbers[row] = len(turns)
        turn, row = left[row][0]
        turns.append(turn)
    return row, tuple(turns[numbers[row]:])
