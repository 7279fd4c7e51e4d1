"""The days of a copy: its stands, its turns, and what happens by them."""

from unmissed.copies import begun, can_sleep, is_stand, is_turn, outcome_of, waking_turns
from unmissed.errors import BadDay, BadLife, BadStand, BadState, BadTurn
from unmissed.lives import outcomes_of
from unmissed.rules import STATES
from unmissed.values import check_door, is_day


def first_stand(book, client):
    """The stand with which each copy of a client begins."""
    return begun(book[client])


def turns(book, door, client, stand, state):
    """The ascending tuple of all turns that are allowed at a stand on a day of a state."""
    check_door(book, door)
    member = book[client]
    if not is_stand(member, stand):
        raise BadStand(stand)
    if state not in STATES:
        raise BadState(state)
    asleep = [()] if can_sleep(member, stand) else []
    return tuple(asleep + waking_turns([member], stand[2], state))


def happens(book, door, client, day, stand, turn):
    """(behind, seen, asked, cried): what comes of a turn at a stand on a day."""
    check_door(book, door)
    member = book[client]
    if not is_day(day):
        raise BadDay(day)
    if not is_stand(member, stand):
        raise BadStand(stand)
    if not is_turn([member], stand, turn):
        raise BadTurn(turn)
    return outcome_of(member, door, day, stand, turn)


def lived(book, door, life):
    """The tuple of what happens tells for each turn of a life."""
    check_door(book, door)
    outcomes = outcomes_of(book, door, life)
    if outcomes is None:
        raise BadLife(life)
    return tuple(outcomes)
