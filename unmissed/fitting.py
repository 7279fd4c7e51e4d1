"""What can have been, by what was heard."""

from unmissed.copies import begun, is_stand
from unmissed.errors import BadHistory
from unmissed.lives import follows, has_some, outcomes_of
from unmissed.pasts import Past, lives_of_somes, longest_beginning, past_that_can_be
from unmissed.reports import days_of
from unmissed.rules import been_rules, fit_rules, somes_of
from unmissed.tables import is_closed, is_table, mornings_of
from unmissed.values import check_door, is_integer
from unmissed.walks import lasting, longest_through


def stand_key(stand):
    """What stands are sorted by, None behind all others."""
    return (True, ()) if stand is None else (False, stand)


def marked_key(row):
    """What rows (stand, has) are sorted by, None behind all stands."""
    return stand_key(row[0]), row[1]


def first_fault(lives, many):
    """What can_be tells, but its table, if the longest beginning that can be has so many days, not all."""
    missed = [some for some in sorted(list(lives)) if lives[some][0] == many]
    if missed:
        return ("nobody",) + missed[0]
    return "one", many


class Marked:
    """The rows (stand, has) of a client by a some."""

    def __init__(self, past, day, ear, name):
        self.walk = past.fit_walks[name]
        self.client = past.book[name]
        self.day = day
        self.ear = ear
        self.first = (begun(self.client), False)

    def behind(self, day, row):
        """The rows that come from a row of the morning of a day."""
        stand, has = row
        steps = self.walk.copies.steps_by(self.walk.rules[day], day, stand)
        return [(come, has or (day == self.day and self.ear in done)) for _, come, done in steps]

    def is_row(self, value):
        """Whether any value is a row by its form."""
        if not isinstance(value, tuple) or len(value) != 2 or not isinstance(value[1], bool):
            return False
        return value[0] is None or is_stand(self.client, value[0])

    def table(self, many):
        """The table of a beginning with so many days."""
        mornings = mornings_of(self.client, many, self.first, self.behind)
        return tuple([tuple(sorted(list(here), key=marked_key)) for here in mornings])

    def is_shown(self, value, many):
        """Whether any value is a closed table of such a beginning, by which nobody has the some."""
        if not is_table(value, many + 1, self.is_row) or not is_closed(value, self.client, self.first, self.behind):
            return False
        return not [has for _, has in value[many] if has]


class Single:
    """The stands of the one copy."""

    def __init__(self, past):
        self.walk = past.been_walks[past.one]
        self.client = past.book[past.one]

    def behind(self, day, stand):
        """The stands that come from a stand in the morning of a day."""
        return [come for _, come, _ in self.walk.copies.steps_by(self.walk.rules[day], day, stand)]

    def is_row(self, value):
        """Whether any value is a row by its form."""
        return value is None or is_stand(self.client, value)

    def table(self, many):
        """The table of a beginning with so many days."""
        mornings = mornings_of(self.client, many, begun(self.client), self.behind)
        return tuple([tuple(sorted(list(here), key=stand_key)) for here in mornings])

    def is_shown(self, value, many):
        """Whether any value is a closed table of such a beginning, by which the one copy cannot have been."""
        if not is_table(value, many + 1, self.is_row):
            return False
        return is_closed(value, self.client, begun(self.client), self.behind) and value[many] == ()


def rows_of_fault(past, fault):
    """The rows that show a fault."""
    if fault[0] == "one":
        return Single(past)
    _, day, ear, name = fault
    return Marked(past, day, ear, name)


def life_of_one(past):
    """A life of the one copy that can have been; None if there is none, or no day."""
    if past.one is None or not past.reports:
        return None
    walk = past.been_walks[past.one]
    many = len(past.reports)
    return walk.life(many, sorted(list(walk.mornings[many]), key=stand_key)[0])


def told_fault(past, lives):
    """What can_be tells of a history that cannot be, lives being those of its somes; None if it can."""
    many = longest_beginning(past, lives)
    if many == len(past.reports):
        return None
    fault = first_fault(lives, many)
    return fault + (rows_of_fault(past, fault).table(many + 1),)


def can_be(book, door, history):
    """What shows that a history can be, or from where on it cannot."""
    check_door(book, door)
    past = Past(book, door, days_of(book, history))
    lives = lives_of_somes(past)
    fault = told_fault(past, lives)
    if fault is not None:
        return fault
    single = life_of_one(past)
    rows = []
    for some in somes_of(past.reports):
        life = single if some[2] == past.one else lives[some][1]
        rows.append(some + (life,))
    return "can", tuple(rows), single


def is_past_life(past, value):
    """Whether any value is a life that can have been, with no turn behind the days of the history."""
    outcomes = outcomes_of(past.book, past.door, value)
    if outcomes is None or value[1] + len(value[2]) > len(past.reports):
        return False
    return follows(been_rules(past.reports, past.book[value[0]]), value, outcomes)


def is_some_row(past, some, single, row):
    """Whether any value is the row of a some, single being the life of the one copy."""
    if not isinstance(row, tuple) or len(row) != 4 or row[:3] != some or not is_integer(row[0]):
        return False
    life = row[3]
    if not is_past_life(past, life) or life[0] != some[2]:
        return False
    if some[2] == past.one:
        return life == single
    return has_some(life, outcomes_of(past.book, past.door, life), some[0], some[1])


def shows_can(past, rows, single):
    """Whether any values are the rows, and the life of the one copy, of a history that can be."""
    if past.one is None or not past.reports:
        if single is not None:
            return False
    elif not is_past_life(past, single) or single[0] != past.one:
        return False
    somes = somes_of(past.reports)
    if not isinstance(rows, tuple) or len(rows) != len(somes):
        return False
    return all([is_some_row(past, some, single, row) for some, row in zip(somes, rows)])


def shows_cannot(past, value):
    """Whether any tuple shows from where on a history cannot be."""
    lives = lives_of_somes(past)
    many = longest_beginning(past, lives)
    if many == len(past.reports):
        return False
    fault = first_fault(lives, many)
    if value[:-1] != fault or not is_integer(value[1]):
        return False
    return rows_of_fault(past, fault).is_shown(value[-1], many + 1)


def shows_can_be(book, door, history, value):
    """Whether any value is such a result as can_be tells."""
    check_door(book, door)
    past = Past(book, door, days_of(book, history))
    if not isinstance(value, tuple):
        return False
    if len(value) == 3 and value[0] == "can":
        return shows_can(past, value[1], value[2])
    return shows_cannot(past, value)


def stands(book, door, history, client):
    """The ascending tuple of all stands that copies of a client have behind a history."""
    check_door(book, door)
    reports = days_of(book, history)
    name = book[client].name
    past = past_that_can_be(book, door, reports)
    return tuple(sorted([stand for stand in past.been_walks[name].mornings[-1] if stand is not None]))


def reports_of_both(book, door, one, other):
    """The reports of two histories of equally many days."""
    check_door(book, door)
    reports = days_of(book, one)
    others = days_of(book, other)
    if len(reports) != len(others):
        raise BadHistory(other)
    return reports, others


def life_that_breaks(walk, lasts, day, rule):
    """(many, life): the life that goes on longest of those that do not follow this rule on this day."""
    return longest_through(walk, lasts, day, lambda turn, done: not rule.lets(turn, done))


def life_that_parts(walk, rules):
    """A life that follows the rules of a walk and not these ones; None if there is none."""
    lasts = lasting(walk)
    for day, rule in enumerate(rules):
        many, life = life_that_breaks(walk, lasts, day, rule)
        if many == len(rules):
            return life
    return None


def within(book, door, one, other):
    """Whether each life that fits one history fits the other; if not, a life that does not."""
    reports, others = reports_of_both(book, door, one, other)
    past = Past(book, door, reports)
    for name in book.clients:
        life = life_that_parts(past.fit_walks[name], fit_rules(others, name))
        if life is not None:
            return "not", life
    return ("within",)


def is_parting(book, door, both, life):
    """Whether any value is a life that fits the first reports of both and not the second ones."""
    outcomes = outcomes_of(book, door, life)
    if outcomes is None:
        return False
    fit_both = [follows(fit_rules(reports, life[0]), life, outcomes) for reports in both]
    return fit_both == [True, False]


def shows_within(book, door, one, other, value):
    """Whether any value is such a result as within tells."""
    told = within(book, door, one, other)
    if not isinstance(value, tuple):
        return False
    if len(value) == 2 and value[0] == "not":
        return is_parting(book, door, reports_of_both(book, door, one, other), value[1])
    return value == told
