"""Copies of a client: their stands, their turns, and how the ones lead to the others."""

from unmissed.rules import HALF, can_meet, done_of
from unmissed.values import is_integer
from unmissed.waking import CRY, Waking


def begun(client):
    """The stand with which each copy of a client begins."""
    return (0,) * len(client.cells), 0, (0,) * len(client.users), 0


def are_below(value, bounds):
    """Whether any value is a tuple with an integer from 0 for each of these bounds, less than it."""
    if not isinstance(value, tuple) or len(value) != len(bounds):
        return False
    return all([is_integer(item) and 0 <= item < bound for item, bound in zip(value, bounds)])


def is_stand(client, value):
    """Whether any value is a stand of the client by its form."""
    if not isinstance(value, tuple) or len(value) != 4:
        return False
    cells, tired, lacks, age = value
    if not are_below(cells, [size for _, size in client.cells]):
        return False
    if not are_below(lacks, [max(many, 1) for _, _, many in client.users]):
        return False
    most_tired = 0 if client.sleeps is None else client.sleeps
    days = 1 if client.lives is None else client.lives
    return are_below((tired, age), (most_tired + 1, days))


def can_sleep(client, stand):
    """Whether a copy with this stand can be asleep."""
    return client.sleeps is None or client.sleeps > stand[1]


def least_choices(client, lacks):
    """For each user the least choice that it can make."""
    return [int(lack + 1 == many) for (_, _, many), lack in zip(client.users, lacks)]


def are_from(choices, leasts):
    """Whether no choice is less than the least one."""
    return all([choice >= least for choice, least in zip(choices, leasts)])


def answer_bounds(clients):
    """For each door of the book how many answers a turn has of it that these clients share."""
    found = []
    for name, size in clients[0].book.doors:
        found.append(size if [client for client in clients if name in client.asks] else 1)
    return found


def is_turn(clients, stand, value):
    """Whether any value is a turn that is allowed at a stand on a half day, and that these clients share.

    Clients share turns if they have like users and like sleeps.
    """
    client = clients[0]
    if value == ():
        return can_sleep(client, stand)
    if not isinstance(value, tuple) or len(value) != 3:
        return False
    choices, answers, is_met = value
    if not are_below(choices, [size for _, size, _ in client.users]):
        return False
    if not are_from(choices, least_choices(client, stand[2])):
        return False
    return are_below(answers, answer_bounds(clients)) and isinstance(is_met, bool)


def combined(rows):
    """The list of all tuples with one item of each row, ascending if the rows are."""
    found = [()]
    for row in rows:
        found = [ahead + (item,) for ahead in found for item in row]
    return found


def waking_turns(clients, lacks, state):
    """The ascending list of all turns that waking copies of these clients share on a day of a state."""
    leasts = least_choices(clients[0], lacks)
    bounds = [size for _, size, _ in clients[0].users]
    choices = combined([list(range(least, bound)) for least, bound in zip(leasts, bounds)])
    answers = combined([list(range(bound)) for bound in answer_bounds(clients)])
    mets = [is_met for is_met in (False, True) if can_meet(state, is_met)]
    return combined([choices, answers, mets])


def lacks_behind(client, lacks, choices):
    """The lacks in the next morning of a copy that was awake."""
    rows = zip(client.users, lacks, choices)
    return tuple([lack + 1 if many > 0 and choice == 0 else 0 for (_, _, many), lack, choice in rows])


def stand_behind(client, cells, tired, lacks, age):
    """The stand in the next morning, age being that till now; None if the copy is gone, as it is if cells is None."""
    if cells is None or age + 1 == client.lives:
        return None
    return cells, tired, lacks, 0 if client.lives is None else age + 1


def asleep_behind(client, stand):
    """The stand in the next morning of a copy that was asleep."""
    cells, tired, lacks, age = stand
    return stand_behind(client, cells, 0 if client.sleeps is None else tired + 1, lacks, age)


def waking_day(client, door, day, cells, turn):
    """(cells, seen, asked, cried) of a waking copy, cells being None if it stopped."""
    waking = Waking(client, door, day, cells, turn)
    waking.do_block(client.day)
    left = None if waking.is_gone else tuple(waking.holds)
    return left, tuple(waking.seen), waking.has_asked, CRY in waking.seen


def outcome_of(client, door, day, stand, turn):
    """(behind, seen, asked, cried), as happens tells it."""
    if turn == ():
        return asleep_behind(client, stand), (), False, False
    cells, seen, asked, cried = waking_day(client, door, day, stand[0], turn)
    lacks = lacks_behind(client, stand[2], turn[0])
    return stand_behind(client, cells, 0, lacks, stand[3]), seen, asked, cried


class Copies:
    """The copies of a client, and what they do on their days; what was worked out is kept."""

    def __init__(self, book, door, name):
        self.client = book[name]
        self.door = door
        self.rounds = book.rounds
        self.kept_runs = {}
        self.kept_steps = {}

    def runs(self, day, cells):
        """Lists of (turn, cells behind, done) for waking copies with these cells.

        All choices of one list make the same users lack. Of turns that nothing else tells apart there is one.
        """
        key = (day % self.rounds, cells)
        if key not in self.kept_runs:
            self.kept_runs[key] = self.new_runs(day, cells)
        return self.kept_runs[key]

    def new_runs(self, day, cells):
        """Works out the runs of a day."""
        lackless = (0,) * len(self.client.users)
        found = {}
        for turn in waking_turns([self.client], lackless, HALF):
            told = waking_day(self.client, self.door, day, cells, turn)
            group = found.setdefault(lacks_behind(self.client, lackless, turn[0]), {})
            group.setdefault((turn[2], told[0], done_of(told)), turn)
        return [[(met, left, done) for (_, left, done), met in rows.items()] for rows in found.values()]

    def steps(self, day, stand):
        """A list of (turn, behind, done) that has all stands behind and ears, for a half day."""
        key = (day % self.rounds, stand)
        if key not in self.kept_steps:
            self.kept_steps[key] = self.new_steps(day, stand)
        return self.kept_steps[key]

    def new_steps(self, day, stand):
        """Works out the steps of a day."""
        cells, _, lacks, age = stand
        leasts = least_choices(self.client, lacks)
        found = []
        if can_sleep(self.client, stand):
            found.append(((), asleep_behind(self.client, stand), ()))
        for group in self.runs(day, cells):
            choices = group[0][0][0]
            if are_from(choices, leasts):
                now = lacks_behind(self.client, lacks, choices)
                found.extend([(turn, stand_behind(self.client, left, 0, now, age), done) for turn, left, done in group])
        return found

    def steps_by(self, rule, day, stand):
        """The steps that a rule lets; who is gone stays so, without a turn, and is not heard."""
        if stand is None:
            return [] if rule.heard else [(None, None, ())]
        return [step for step in self.steps(day, stand) if rule.lets(step[0], step[2])]
