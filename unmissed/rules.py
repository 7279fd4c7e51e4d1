"""Rules: what the report of a day lets the copies of a client do."""

OPEN = "open"
SHUT = "shut"
HALF = "half"
STATES = ("open", "shut", "half")
ASKS = "asks"
EARS = ("asks", "cries")
ANYBODY = "*"
SOME = "some"
NONE = "none"


def can_meet(state, is_met):
    """Whether is_met can be so on a day of this state."""
    return state == HALF or is_met == (state == OPEN)


def done_of(outcome):
    """The ears at which this can be heard, outcome being what happens tells of a day."""
    return tuple([ear for ear, is_done in zip(EARS, outcome[2:]) if is_done])


class Rule:
    """What is let on a day: its state, the ears at which a copy must not be heard, and those at which it has to."""

    def __init__(self, state, silent=(), heard=()):
        self.state = state
        self.silent = silent
        self.heard = heard

    def lets(self, turn, done):
        """Whether a copy can have this turn, by which it can be heard at the ears done."""
        if turn != () and not can_meet(self.state, turn[2]):
            return False
        return not [ear for ear in done if ear in self.silent] and not [ear for ear in self.heard if ear not in done]


def ears_with(report, word, names):
    """The ears that have this word for one of these names."""
    return tuple([ear for ear, who, told in report[1] if told == word and who in names])


def fit_rules(reports, name):
    """For each day the rule of the lives of a client that fit."""
    return [Rule(report[0], ears_with(report, NONE, (ANYBODY, name))) for report in reports]


def been_rules(reports, client):
    """For each day the rule of the lives of a client that can have been."""
    if not client.is_one:
        return fit_rules(reports, client.name)
    rules = []
    for report in reports:
        silent = ears_with(report, NONE, (ANYBODY, client.name))
        rules.append(Rule(report[0], silent, ears_with(report, SOME, (client.name,))))
    return rules


def somes_of(reports):
    """The ascending list with (day, ear, client) for each some."""
    found = []
    for day, report in enumerate(reports):
        found.extend([(day, ear, who) for ear, who, word in report[1] if word == SOME])
    return found
