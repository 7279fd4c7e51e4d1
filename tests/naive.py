"""The words of sections 5 to 8, told a second time: slowly, and without anything of the package but Book.

A day is done line by line from the client's text; lives are made one by one, all of them.
"""

import itertools
import re

WORDS = {
    "same": lambda a, b: int(a == b),
    "less": lambda a, b: int(a < b),
    "and_": lambda a, b: int(a != 0 and b != 0),
    "or_": lambda a, b: int(a != 0 or b != 0),
    "not_": lambda a: int(a == 0),
    "more": lambda a: a + 1,
    "fewer": lambda a: max(a - 1, 0),
}


def is_number(value):
    return type(value) is int


def depth_of(line):
    return len(line) - len(line.lstrip(" "))


class Day:
    """A waking day, done from the lines of the client."""

    def __init__(self, book, door, client, day, cells, turn):
        member = book[client]
        self.sizes = dict(member.cells)
        self.holds = dict(zip(self.sizes, cells))
        self.door = door
        choices, answers, self.is_met = turn
        self.answers = dict(zip([name for name, _ in book.doors], answers))
        self.known = {name: day % size for name, size in book.calendars}
        self.known.update(zip([row[0] for row in member.users], choices))
        self.seen, self.asked, self.gone = [], False, False
        lines = member.text.split("\n")
        self.do(lines[lines.index("  day") + 1:])

    def worth(self, text):
        names = dict(WORDS, **{"v_" + name: value for name, value in {**self.known, **self.holds}.items()})
        text = re.sub(r"\b(and|or|not)\(", r"\1_(", text)
        return eval(re.sub(r"\b([a-z]+)\b(?![_(])", r"v_\1", text), {}, names)

    def hold(self, cell, value):
        self.holds[cell] = min(value, self.sizes[cell] - 1)

    def do(self, lines):
        while lines and not self.gone:
            head, depth, at = lines[0], depth_of(lines[0]), 1
            while at < len(lines) and depth_of(lines[at]) > depth:
                at += 1
            block, otherwise = lines[1:at], []
            if at < len(lines) and lines[at].strip() == "else":
                end = at + 1
                while end < len(lines) and depth_of(lines[end]) > depth:
                    end += 1
                otherwise, at = lines[at + 1:end], end
            self.do_one(head.strip(), block, otherwise)
            lines = lines[at:]

    def do_one(self, head, block, otherwise):
        word, _, behind = head.partition(" ")
        if word == "set":
            cell, _, text = behind.partition(" ")
            self.hold(cell, self.worth(text))
        if word == "tell":
            self.seen.append(self.worth(behind))
        if word == "cry":
            self.seen.append("cry")
        if word == "stop":
            self.gone = True
        if word == "if":
            self.do(block if self.worth(behind) else otherwise)
        if word == "repeat":
            for _ in range(int(behind)):
                self.do(block)
        if word == "ask":
            door, _, cell = behind.partition(" ")
            self.asked = self.asked or door == self.door
            if door == self.door and not self.is_met:
                self.do(otherwise)
            elif cell:
                self.hold(cell, self.answers[door])


def naive_first(book, client):
    return (0,) * len(book[client].cells), 0, (0,) * len(book[client].users), 0


def naive_turns(book, client, stand, state):
    member = book[client]
    _, tired, lacks, _ = stand
    found = [()] if member.sleeps is None or member.sleeps > tired else []
    choices = []
    for (_, size, many), lack in zip(member.users, lacks):
        choices.append([n for n in range(size) if n > 0 or many == 0 or lack != many - 1])
    answers = [list(range(size if name in member.asks else 1)) for name, size in book.doors]
    for its_choices in itertools.product(*choices):
        for its_answers in itertools.product(*answers):
            for is_met in {"open": [True], "shut": [False], "half": [False, True]}[state]:
                found.append((its_choices, its_answers, is_met))
    return tuple(sorted(found))


KEPT = {}


def naive_happens(book, door, client, day, stand, turn):
    key = (book.text, door, client, day % book.rounds, stand, turn)
    if key not in KEPT:
        KEPT[key] = told_happens(book, door, client, day, stand, turn)
    return KEPT[key]


def told_happens(book, door, client, day, stand, turn):
    member = book[client]
    cells, tired, lacks, age = stand
    is_over = member.lives is not None and age + 1 == member.lives
    if member.lives is not None:
        age += 1
    if turn == ():
        tired = 0 if member.sleeps is None else tired + 1
        return None if is_over else (cells, tired, lacks, age), (), False, False
    done = Day(book, door, client, day, cells, turn)
    lacks = tuple(lack + 1 if many and choice == 0 else 0
                  for (_, _, many), lack, choice in zip(member.users, lacks, turn[0]))
    behind = (tuple(done.holds.values()), 0, lacks, age)
    return None if is_over or done.gone else behind, tuple(done.seen), done.asked, "cry" in done.seen


def naive_lived(book, door, life):
    """What happens on each turn, None for what is no life."""
    if type(life) is not tuple or len(life) != 3:
        return None
    client, begin, turns = life
    if type(client) is not str or client not in book.clients or not is_number(begin) or begin < 0:
        return None
    begins = book[client].begins
    if begins is not None and begin > begins or type(turns) is not tuple or not turns:
        return None
    stand, found = naive_first(book, client), []
    for at, turn in enumerate(turns):
        # repr tells True and 1, and lists and tuples, from one another.
        if stand is None or repr(turn) not in [repr(one) for one in naive_turns(book, client, stand, "half")]:
            return None
        found.append(naive_happens(book, door, client, begin + at, stand, turn))
        stand = found[-1][0]
    return found


def naive_days(history):
    return [report for many, report in history for _ in range(many)]


def naive_has(outcome, ear):
    return outcome[2] if ear == "asks" else outcome[3]


def naive_fits_day(report, client, turn, outcome):
    state, ears = report
    if turn != () and (state == "open" and not turn[2] or state == "shut" and turn[2]):
        return False
    return not any(word == "none" and who in ("*", client) and naive_has(outcome, ear) for ear, who, word in ears)


def naive_fits(book, door, reports, life):
    client, begin, turns = life
    found = naive_lived(book, door, life)
    for day in range(begin, len(reports)):
        at = day - begin
        if at >= len(turns):
            return found[-1][0] is None
        if not naive_fits_day(reports[day], client, turns[at], found[at]):
            return False
    return True


def naive_somes(reports):
    return [(day, ear, who) for day, (_, ears) in enumerate(reports) for ear, who, word in ears if word == "some"]


def naive_has_some(book, door, some, life):
    day, ear, client = some
    at = day - life[1]
    return life[0] == client and 0 <= at < len(life[2]) and naive_has(naive_lived(book, door, life)[at], ear)


def naive_can_have_been(book, door, reports, life):
    if not naive_fits(book, door, reports, life):
        return False
    if not book[life[0]].is_one:
        return True
    return all(naive_has_some(book, door, some, life) for some in naive_somes(reports) if some[2] == life[0])


def lives_that_fit(book, door, reports, client):
    """All lives of a client, begun ahead of the end of the history, that fit, with just a turn for each day."""
    member, days, found = book[client], len(reports), []
    heads = [(begin, (), naive_first(book, client)) for begin in range(days)
             if member.begins is None or begin <= member.begins]
    while heads:
        begin, turns, stand = heads.pop()
        day = begin + len(turns)
        if stand is None or day == days:
            found.append((client, begin, turns))
            continue
        for turn in naive_turns(book, client, stand, "half"):
            outcome = naive_happens(book, door, client, day, stand, turn)
            if naive_fits_day(reports[day], client, turn, outcome):
                heads.append((begin, turns + (turn,), outcome[0]))
    return found


def stand_of(book, door, life, morning):
    """The stand of a life in a morning, "before" ahead of its begin."""
    client, begin, turns = life
    if morning < begin:
        return "before"
    if morning == begin:
        return naive_first(book, client)
    found = naive_lived(book, door, life)
    return found[min(morning - begin, len(turns)) - 1][0]


def naive_counts(book, door, reports, client):
    """For each morning how many stands there are by lives that fit the days ahead."""
    found, here = [], set()
    for day, report in enumerate(reports):
        if book[client].begins is None or day <= book[client].begins:
            here.add(naive_first(book, client))
        found.append(len(here))
        behind = set()
        for stand in here:
            for turn in naive_turns(book, client, stand, "half"):
                outcome = naive_happens(book, door, client, day, stand, turn)
                if naive_fits_day(report, client, turn, outcome) and outcome[0] is not None:
                    behind.add(outcome[0])
        here = behind
    return found + [len(here)]


def none_behind(row):
    return (row is None, row or ())


def naive_fault(book, door, reports):
    """What can_be tells of the shortest beginning that cannot be; None if all can."""
    for days in range(1, len(reports) + 1):
        ahead = reports[:days]
        lives = {client: lives_that_fit(book, door, ahead, client) for client in book.clients}
        for some in naive_somes(ahead):
            client = some[2]
            if not book[client].is_one and not any(naive_has_some(book, door, some, life) for life in lives[client]):
                return ("nobody",) + some + (marked_table(book, door, ahead, some),)
        for client in book.clients:
            been = [life for life in lives[client] if naive_can_have_been(book, door, ahead, life)]
            if book[client].is_one and not been:
                return "one", days - 1, single_table(book, door, ahead, client)
    return None


def marked_table(book, door, reports, some):
    table = []
    for morning in range(len(reports) + 1):
        rows = set()
        for life in lives_that_fit(book, door, reports[:morning], some[2]):
            has = some[0] < morning and naive_has_some(book, door, some, life)
            rows.add((stand_of(book, door, life, morning), has))
        if morning < len(reports) and (book[some[2]].begins is None or morning <= book[some[2]].begins):
            rows.add((naive_first(book, some[2]), False))
        table.append(tuple(sorted(rows, key=lambda row: (none_behind(row[0]), row[1]))))
    return tuple(table)


def single_table(book, door, reports, client):
    table = [(naive_first(book, client),)]
    for morning in range(1, len(reports) + 1):
        ahead = reports[:morning]
        lives = [life for life in lives_that_fit(book, door, ahead, client)
                 if naive_can_have_been(book, door, ahead, life)]
        rows = {stand_of(book, door, life, morning) for life in lives}
        table.append(tuple(sorted(rows, key=none_behind)))
    return tuple(table)


def naive_stands(book, door, reports, client):
    lives = [life for life in lives_that_fit(book, door, reports, client)
             if naive_can_have_been(book, door, reports, life)]
    found = {stand_of(book, door, life, len(reports)) for life in lives}
    return tuple(sorted(found - {None}))


def quick_stands(book, door, reports, client):
    """As naive_stands, for long histories: stand by stand, not life by life."""
    here = set()
    for day in range(len(reports)):
        if book[client].begins is None or day <= book[client].begins:
            here.add(naive_first(book, client))
        rows = [next_rows(book, door, reports, client, day, stand, book[client].is_one) for stand in here]
        here = {behind for row in rows for behind, _ in row if behind is not None}
    return tuple(sorted(here))


def naive_never(book, door, reports):
    """(first day on which a copy can ask, or None; the table of all rows up to then)."""
    day = len(reports)
    here = {(client, stand) for client in book.clients for stand in quick_stands(book, door, reports, client)}
    table, calm = set(), 0
    while calm <= book.settled + book.rounds:
        for client in book.clients:
            if book[client].begins is None or day <= book[client].begins:
                here.add((client, naive_first(book, client)))
        rows = {(book.moment(day), client, stand) for client, stand in here}
        calm = calm + 1 if rows <= table else 0
        table |= rows
        behind = set()
        for client, stand in here:
            for turn in naive_turns(book, client, stand, "open"):
                outcome = naive_happens(book, door, client, day, stand, turn)
                if outcome[2]:
                    return day, tuple(sorted(table))
                behind.add((client, outcome[0]))
        here = {row for row in behind if row[1] is not None}
        day += 1
    return None, tuple(sorted(table))


def is_naive_stand(book, client, value):
    member = book[client]
    if type(value) is not tuple or len(value) != 4 or type(value[0]) is not tuple or type(value[2]) is not tuple:
        return False
    cells, tired, lacks, age = value
    if len(cells) != len(member.cells) or len(lacks) != len(member.users):
        return False
    bounds = [size - 1 for _, size in member.cells] + [max(many - 1, 0) for _, _, many in member.users]
    bounds += [member.sleeps or 0, (member.lives or 1) - 1]
    return all(is_number(n) and 0 <= n <= most for n, most in zip(cells + lacks + (tired, age), bounds))


def next_rows(book, door, reports, client, day, stand, has_all=False):
    """(behind, outcome) for each turn that fits a day."""
    found = []
    for turn in naive_turns(book, client, stand, "half"):
        outcome = naive_happens(book, door, client, day, stand, turn)
        wanted = [ear for ear, who, word in reports[day][1] if who == client and word == "some"] if has_all else []
        if naive_fits_day(reports[day], client, turn, outcome) and all(naive_has(outcome, ear) for ear in wanted):
            found.append((outcome[0], outcome))
    return found


def naive_shows_can_be(book, door, reports, value):
    fault = naive_fault(book, door, reports)
    if type(value) is not tuple or not value or type(value[0]) is not str:
        return False
    if value[0] == "can":
        return fault is None and len(value) == 3 and shows_naive_can(book, door, reports, value[1], value[2])
    if fault is None or len(value) != len(fault) or repr(value[:-1]) != repr(fault[:-1]):
        return False
    table = value[-1]
    if type(table) is not tuple or len(table) != len(fault[-1]) or any(type(rows) is not tuple for rows in table):
        return False
    if fault[0] == "one":
        return shows_naive_one(book, door, reports, table)
    return shows_naive_nobody(book, door, reports, fault[1:4], table)


def is_just_past(book, door, reports, life):
    if naive_lived(book, door, life) is None or not naive_can_have_been(book, door, reports, life):
        return False
    return life[1] + len(life[2]) <= len(reports)


def shows_naive_can(book, door, reports, rows, single):
    one = [client for client in book.clients if book[client].is_one]
    if one and reports:
        if not is_just_past(book, door, reports, single) or single[0] != one[0]:
            return False
    elif single is not None:
        return False
    somes = naive_somes(reports)
    if type(rows) is not tuple or len(rows) != len(somes):
        return False
    for some, row in zip(somes, rows):
        if type(row) is not tuple or len(row) != 4 or repr(row[:3]) != repr(some):
            return False
        if some[2] in one:
            if repr(row[3]) != repr(single):
                return False
        elif not is_just_past(book, door, reports, row[3]) or not naive_has_some(book, door, some, row[3]):
            return False
    return True


def shows_naive_nobody(book, door, reports, some, table):
    client = some[2]
    for rows in table:
        for row in rows:
            if type(row) is not tuple or len(row) != 2 or type(row[1]) is not bool:
                return False
            if row[0] is not None and not is_naive_stand(book, client, row[0]):
                return False
    for day in range(len(table) - 1):
        if (book[client].begins is None or day <= book[client].begins) and \
                (naive_first(book, client), False) not in table[day]:
            return False
        for stand, has in table[day]:
            if stand is None:
                if (None, has) not in table[day + 1]:
                    return False
                continue
            for behind, outcome in next_rows(book, door, reports, client, day, stand):
                now = has or (day == some[0] and naive_has(outcome, some[1]))
                if (behind, now) not in table[day + 1]:
                    return False
    return not any(has for _, has in table[-1])


def shows_naive_one(book, door, reports, table):
    client = [name for name in book.clients if book[name].is_one][0]
    for rows in table:
        if any(row is not None and not is_naive_stand(book, client, row) for row in rows):
            return False
    if naive_first(book, client) not in table[0] or table[-1]:
        return False
    for day in range(len(table) - 1):
        for stand in table[day]:
            if stand is None:
                heard = [row for row in naive_somes(reports) if row[0] == day and row[2] == client]
                if not heard and None not in table[day + 1]:
                    return False
                continue
            for behind, _ in next_rows(book, door, reports, client, day, stand, True):
                if behind not in table[day + 1]:
                    return False
    return True


def naive_shows_within(book, door, one, other, value):
    if type(value) is not tuple or not value:
        return False
    if len(value) == 2 and value[0] == "not":
        return (naive_lived(book, door, value[1]) is not None and naive_fits(book, door, one, value[1])
                and not naive_fits(book, door, other, value[1]))
    return value == ("within",) and naive_is_within(book, door, one, other)


def naive_is_within(book, door, one, other):
    return all(naive_fits(book, door, other, life) for client in book.clients
               for life in lives_that_fit(book, door, one, client))


def naive_shows_still_asked(book, door, reports, value):
    if type(value) is not tuple or len(value) != 2 or type(value[0]) is not str:
        return False
    if value[0] == "asks":
        return shows_naive_asks(book, door, reports, value[1])
    return value[0] == "never" and shows_naive_never(book, door, reports, value[1])


def shows_naive_asks(book, door, reports, life):
    found = naive_lived(book, door, life)
    if found is None or not naive_can_have_been(book, door, reports, life):
        return False
    client, begin, turns = life
    last = begin + len(turns) - 1
    if last < len(reports) or not found[-1][2]:
        return False
    return all(turn == () or turn[2] for at, turn in enumerate(turns) if begin + at >= len(reports))


def shows_naive_never(book, door, reports, table):
    if type(table) is not tuple:
        return False
    for row in table:
        if type(row) is not tuple or len(row) != 3 or not is_number(row[0]) or type(row[1]) is not str:
            return False
        if not 0 <= row[0] < book.settled + book.rounds or row[1] not in book.clients:
            return False
        if not is_naive_stand(book, row[1], row[2]):
            return False
    now, rows = len(reports), set(table)
    for client in book.clients:
        if not {(book.moment(now), client, stand) for stand in quick_stands(book, door, reports, client)} <= rows:
            return False
        for day in range(now, now + 50):
            if book[client].begins is None or day <= book[client].begins:
                if (book.moment(day), client, naive_first(book, client)) not in rows:
                    return False
    for moment, client, stand in rows:
        for turn in naive_turns(book, client, stand, "open"):
            behind, _, asked, _ = naive_happens(book, door, client, moment, stand, turn)
            if asked or behind is not None and (book.moment(moment + 1), client, behind) not in rows:
                return False
    return True
