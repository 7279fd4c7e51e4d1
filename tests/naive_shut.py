"""The words of sections 9 to 12, told a second time: slowly, and without anything of the package but Book."""

from tests.naive import (is_naive_stand, is_number, naive_can_have_been, naive_first, naive_fits_day, naive_happens,
                         naive_lived, naive_turns, quick_stands)

GONE = (None, (), False, False)


def can_begin(book, client, day):
    begins = book[client].begins
    return begins is None or day <= begins


def there(book, door, reports):
    """All (client, stand) in the morning behind the reports."""
    return {(name, stand) for name in book.clients for stand in quick_stands(book, door, reports, name)}


def begun_on(book, day):
    return {(name, naive_first(book, name)) for name in book.clients if can_begin(book, name, day)}


def seen_of(outcome, eyes):
    return {"user": outcome[1], "owner": outcome[2:], "both": outcome[1:]}[eyes]


def happens_to(book, door, client, day, stand, turn):
    return GONE if stand is None else naive_happens(book, door, client, day, stand, turn)


def met(turn):
    return turn if turn == () else turn[:2] + (True,)


def pair_days(book, door, client, day, pair, state):
    """(turn, pair behind, whether the user sees a difference) for each turn of a pair."""
    one, other = pair
    found = []
    for turn in naive_turns(book, client, one or other, state):
        open_one = happens_to(book, door, client, day, one, met(turn))
        as_it_is = happens_to(book, door, client, day, other, turn)
        found.append((turn, (open_one[0], as_it_is[0]), open_one[1] != as_it_is[1]))
    return found


def last_stands_key(row):
    return tuple((stand is None, stand or ()) for stand in row[-2:])


def as_table(rows):
    return tuple(sorted(rows, key=lambda row: (row[:-2], last_stands_key(row))))


def naive_harm(book, door, reports, names=None):
    """(first day on which a user is harmed, or None; all rows that come up to then; how many as each day begins)."""
    names = names or book.clients
    day, counts, table = len(reports), [], set()
    here = {(name, stand, stand) for name, stand in there(book, door, reports) if name in names}
    calm = 0
    while calm <= book.settled + book.rounds:
        here |= {(name, stand, stand) for name, stand in begun_on(book, day) if name in names}
        rows = {(book.moment(day), *row) for row in here}
        calm = calm + 1 if rows <= table else 0
        table |= rows
        counts.append(len(table))
        behind = set()
        for name, one, other in here:
            for _, pair, is_harmed in pair_days(book, door, name, day, (one, other), "shut"):
                if is_harmed:
                    return day, table, counts
                behind.add((name, *pair))
        here = {row for row in behind if row[1:] != (None, None)}
        day += 1
    return None, table, counts


def naive_hurts(book, door, reports, plan):
    """(first day on which a plan shows a user another thing, or None; how many rows as each day begins)."""
    here = {(name, stand, stand) for name, stand in there(book, door, reports)}
    many, counts = 0, []
    for at, (state, _) in enumerate(plan):
        day = len(reports) + at
        here |= {(name, stand, stand) for name, stand in begun_on(book, day)}
        many += len(here)
        counts.append(many)
        behind = set()
        for name, one, other in here:
            for _, pair, is_hurt in pair_days(book, door, name, day, (one, other), state):
                if is_hurt:
                    return day, counts
                behind.add((name, *pair))
        here = {row for row in behind if row[1:] != (None, None)}
    return None, counts


def same_value(one, other):
    """repr tells True and 1, and lists and tuples, from one another."""
    return repr(one) == repr(other)


def parts_last(book, door, client, day, pair, states, turns):
    """Whether the user sees a difference on the last of these turns, and not ahead."""
    for at, turn in enumerate(turns):
        if pair == (None, None) or at >= len(states):
            return False
        rows = [row for row in pair_days(book, door, client, day + at, pair, states[at]) if same_value(row[0], turn)]
        if not rows:
            return False
        if rows[0][2]:
            return at == len(turns) - 1
        pair = rows[0][1]
    return False


def naive_split(book, door, reports, silent, value):
    """(client, day, stand, turns) of a course behind the reports and so many silent days; None for other values."""
    if type(value) is not tuple or len(value) != 3:
        return None
    client, begin, turns = value
    if type(client) is not str or client not in book.clients or not is_number(begin) or begin < 0:
        return None
    if not can_begin(book, client, begin) or type(turns) is not tuple:
        return None
    now = len(reports) + len(silent)
    if begin >= now:
        return client, begin, naive_first(book, client), turns
    ahead = (client, begin, turns[:now - begin])
    found = naive_lived(book, door, ahead)
    if found is None or len(found) != now - begin or found[-1][0] is None:
        return None
    if not naive_can_have_been(book, door, list(reports) + list(silent), ahead):
        return None
    return client, now, found[-1][0], turns[now - begin:]


def is_naive_course(book, door, reports, value, silent=(), states=None):
    parts = naive_split(book, door, reports, silent, value)
    if parts is None:
        return False
    client, day, stand, turns = parts
    known = ["shut"] * len(turns) if states is None else states[day - len(reports):]
    return parts_last(book, door, client, day, (stand, stand), known, turns)


def is_naive_pair(book, clients, one, other):
    if one is None and other is None:
        return False
    for client, stand in zip(clients, (one, other)):
        if stand is not None and not is_naive_stand(book, client, stand):
            return False
    return one is None or other is None or one[1:] == other[1:]


def is_naive_harmless(book, door, reports, table, silent=()):
    """Whether a table is closed, and by it no user is harmed."""
    if type(table) is not tuple:
        return False
    for row in table:
        if type(row) is not tuple or len(row) != 4 or not is_number(row[0]) or type(row[1]) is not str:
            return False
        if not 0 <= row[0] < book.settled + book.rounds or row[1] not in book.clients:
            return False
        if not is_naive_pair(book, (row[1], row[1]), row[2], row[3]):
            return False
    ahead, rows = list(reports) + list(silent), set(table)
    firsts = {(book.moment(len(ahead)), name, stand, stand) for name, stand in there(book, door, ahead)}
    for day in range(len(ahead), len(ahead) + 50):
        firsts |= {(book.moment(day), name, stand, stand) for name, stand in begun_on(book, day)}
    if not firsts <= rows:
        return False
    for moment, name, one, other in rows:
        for _, pair, is_harmed in pair_days(book, door, name, moment, (one, other), "shut"):
            if is_harmed or pair != (None, None) and (book.moment(moment + 1), name, *pair) not in rows:
                return False
    return True


def naive_shows_harm(book, door, reports, value):
    if type(value) is not tuple or len(value) != 2 or type(value[0]) is not str:
        return False
    if value[0] == "harms":
        return is_naive_course(book, door, reports, value[1])
    return value[0] == "harmless" and is_naive_harmless(book, door, reports, value[1])


def naive_shows_hurts(book, door, reports, plan, value):
    if type(value) is not tuple or not value:
        return False
    if len(value) == 2 and value[0] == "hurts":
        return is_naive_course(book, door, reports, value[1], states=[state for state, _ in plan])
    return value == ("gentle",) and naive_hurts(book, door, reports, plan)[0] is None


# How many silent days are enough.


def silent_rows(book, door, reports, report):
    """All silent rows."""
    day, rows, calm = len(reports), set(), 0
    here = there(book, door, reports)
    while calm <= book.settled + book.rounds:
        here |= begun_on(book, day)
        fresh = {(book.moment(day), *row) for row in here}
        calm = calm + 1 if fresh <= rows else 0
        rows |= fresh
        behind = set()
        for name, stand in here:
            for turn in naive_turns(book, name, stand, "half"):
                outcome = naive_happens(book, door, name, day, stand, turn)
                if naive_fits_day(report, name, turn, outcome) and outcome[0] is not None:
                    behind.add((name, outcome[0]))
        here, day = behind, day + 1
    return rows


def shut_rows(book, door, silent):
    """All shut rows of silent ones, and those of them by a turn of which the user is harmed."""
    rows = {(moment, name, stand, stand) for moment, name, stand in silent}
    left, harming = list(rows), set()
    while left:
        moment, name, one, other = row = left.pop()
        for _, pair, is_harmed in pair_days(book, door, name, moment, (one, other), "shut"):
            behind = (book.moment(moment + 1), name, *pair)
            if is_harmed:
                harming.add(row)
            elif pair != (None, None) and behind not in rows:
                rows.add(behind)
                left.append(behind)
    return rows, harming


def naive_late(book, door):
    """Whether a copy of a client that begins always can be harmed from its first day on."""
    for name in book.clients:
        if book[name].begins is None:
            first = naive_first(book, name)
            for day in range(book.settled, book.settled + book.rounds):
                if shut_rows(book, door, {(day, name, first)})[1]:
                    return True
    return False


def naive_least(book, door, reports, report):
    """The least number of silent days that is enough; None if none is."""
    most = len(silent_rows(book, door, reports, report)) + book.settled + 1
    if naive_harm(book, door, list(reports) + [report] * most)[0] is not None:
        return None
    many = 0
    while naive_harm(book, door, list(reports) + [report] * many)[0] is not None:
        many += 1
    return many


def naive_wait(book, door, reports, report):
    """("late",), ("ring",) or ("days", n, table)."""
    if naive_late(book, door):
        return ("late",)
    many = naive_least(book, door, reports, report)
    if many is None:
        return ("ring",)
    return "days", many, as_table(naive_harm(book, door, list(reports) + [report] * many)[1])


def naive_shows_wait(book, door, reports, report, value):
    if type(value) is not tuple or not value or type(value[0]) is not str:
        return False
    if value[0] == "late" and len(value) == 2:
        return is_naive_late(book, door, value[1])
    if value[0] == "ring" and len(value) == 6:
        return is_naive_ring(book, door, reports, report, *value[1:])
    if value[0] != "days" or len(value) != 4 or not is_number(value[1]) or value[1] < 0:
        return False
    _, many, course, table = value
    if many > 200:
        return False
    if many == 0 and not same_value(course, ()):
        return False
    if many > 0 and not is_naive_course(book, door, reports, course, [report] * (many - 1)):
        return False
    return is_naive_harmless(book, door, reports, table, [report] * many)


def is_naive_late(book, door, course):
    if type(course) is not tuple or len(course) != 3:
        return False
    client, begin, turns = course
    if type(client) is not str or client not in book.clients or not is_number(begin) or begin < book.settled:
        return False
    if book[client].begins is not None or type(turns) is not tuple:
        return False
    first = naive_first(book, client)
    return parts_last(book, door, client, begin, (first, first), ["shut"] * len(turns), turns)


def is_naive_ring(book, door, reports, report, client, begin, ahead, ring, behind):
    if type(ahead) is not tuple or type(ring) is not tuple or type(behind) is not tuple or not ring:
        return False
    found = naive_lived(book, door, (client, begin, ahead + ring))
    if found is None:
        return False
    first = begin + len(ahead)
    last = first + len(ring)
    if first < len(reports) or first < book.settled or book.moment(first) != book.moment(last):
        return False
    silent = [report] * (last - len(reports))
    if not naive_can_have_been(book, door, list(reports) + silent, (client, begin, ahead + ring)):
        return False
    stands = [naive_first(book, client)] + [outcome[0] for outcome in found]
    if stands[-1] is None or stands[len(ahead)] != stands[-1]:
        return False
    pair = (stands[-1], stands[-1])
    return parts_last(book, door, client, last, pair, ["shut"] * len(behind), behind)


# Two clients.


def shared_turns(book, one, other, stand, state):
    """All turns that copies of both clients share at a stand."""
    found = {}
    for client in (one, other):
        for turn in naive_turns(book, client, stand, state):
            found[turn] = True
    if one == other or () in found and len(found) == 1:
        return list(found)
    asks = [name in book[one].asks or name in book[other].asks for name, _ in book.doors]
    full = []
    for turn in found:
        rows = [turn]
        if turn != ():
            for at, (_, size) in enumerate(book.doors):
                if asks[at]:
                    rows = [(c, a[:at] + (n,) + a[at + 1:], m) for c, a, m in rows for n in range(size)]
        full += rows
    return sorted(set(full))


def both_days(book, one, other, door, day, pair, state, eyes):
    """(turn, pair behind, whether the eyes see a difference) for each turn that two copies share."""
    found = []
    for turn in shared_turns(book, one, other, pair[0] or pair[1], state):
        outcomes = [happens_to(book, door, client, day, stand, turn) for client, stand in zip((one, other), pair)]
        is_seen = seen_of(outcomes[0], eyes) != seen_of(outcomes[1], eyes)
        found.append((turn, (outcomes[0][0], outcomes[1][0]), is_seen))
    return found


def naive_parted(book, one, other, door, state, eyes):
    """(fewest turns by which the eyes part two clients, or None; all rows that come up to then; counts)."""
    first = (naive_first(book, one), naive_first(book, other))
    here = {(phase, *first) for phase in range(book.rounds)}
    table, counts, many = set(), [], 0
    while not here <= table:
        table |= here
        counts.append(len(table))
        many += 1
        behind = set()
        for phase, *pair in here:
            for _, come, is_seen in both_days(book, one, other, door, phase, tuple(pair), state, eyes):
                if is_seen:
                    return many, table, counts
                if come != (None, None):
                    behind.add(((phase + 1) % book.rounds, *come))
        here = behind
    return None, table, counts


def naive_shows_parted(book, one, other, door, state, eyes, value):
    if type(value) is not tuple or not value or type(value[0]) is not str:
        return False
    if value[0] == "alike" and len(value) == 2:
        return is_naive_alike(book, one, other, door, state, eyes, value[1])
    if value[0] != "parted" or len(value) != 3:
        return False
    _, begin, turns = value
    if not is_number(begin) or not 0 <= begin < book.rounds or type(turns) is not tuple:
        return False
    pair = (naive_first(book, one), naive_first(book, other))
    for at, turn in enumerate(turns):
        if pair == (None, None):
            return False
        rows = both_days(book, one, other, door, begin + at, pair, state, eyes)
        rows = [row for row in rows if same_value(row[0], turn)]
        if not rows:
            return False
        if rows[0][2]:
            return at == len(turns) - 1
        pair = rows[0][1]
    return False


def is_naive_alike(book, one, other, door, state, eyes, table):
    if type(table) is not tuple:
        return False
    for row in table:
        if type(row) is not tuple or len(row) != 3 or not is_number(row[0]) or not 0 <= row[0] < book.rounds:
            return False
        if not is_naive_pair(book, (one, other), row[1], row[2]):
            return False
    rows = set(table)
    first = (naive_first(book, one), naive_first(book, other))
    if not {(phase, *first) for phase in range(book.rounds)} <= rows:
        return False
    for phase, *pair in rows:
        for _, come, is_seen in both_days(book, one, other, door, phase, tuple(pair), state, eyes):
            if is_seen or come != (None, None) and ((phase + 1) % book.rounds, *come) not in rows:
                return False
    return True
