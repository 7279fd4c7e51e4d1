"""Lives: their form, and which rules they follow."""

from unmissed.copies import begun, is_turn, outcome_of
from unmissed.rules import done_of
from unmissed.values import is_day


def can_begin(client, day):
    """Whether a copy of the client can begin on a day."""
    return client.begins is None or day <= client.begins


def outcomes_of(book, door, value):
    """The list of what happens on each day of a life; None for any value that is no life."""
    if not isinstance(value, tuple) or len(value) != 3:
        return None
    name, begin, met = value
    if name not in book or not is_day(begin) or not can_begin(book[name], begin):
        return None
    if not isinstance(met, tuple) or met == ():
        return None
    client = book[name]
    stand = begun(client)
    found = []
    for at, turn in enumerate(met):
        if stand is None or not is_turn([client], stand, turn):
            return None
        found.append(outcome_of(client, door, begin + at, stand, turn))
        stand = found[at][0]
    return found


def follows(rules, life, outcomes):
    """Whether a life, with its outcomes, follows the rules of the days from day 0 on."""
    _, begin, met = life
    for at, rule in enumerate(rules[begin:begin + len(met)]):
        if not rule.lets(met[at], done_of(outcomes[at])):
            return False
    left = rules[begin + len(met):]
    if not left:
        return True
    # Who is gone has no turn any more, and is not heard.
    return outcomes[-1][0] is None and not [rule for rule in left if rule.heard]


def has_some(life, outcomes, day, ear):
    """Whether a life, with its outcomes, can be heard at an ear on a day."""
    at = day - life[1]
    return 0 <= at < len(outcomes) and ear in done_of(outcomes[at])
