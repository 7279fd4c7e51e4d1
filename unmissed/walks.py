"""Walks: which stands copies of a client can have, morning by morning, and how each is come to."""

from unmissed.copies import begun
from unmissed.errors import TooMany
from unmissed.lives import can_begin

MOST_STANDS = 300


class Walk:
    """The mornings of a client's copies, from that of day 0 on.

    A morning is a dict: a stand -> (the stand in the morning ahead, the turn between), with None for it
    where copies begin. None among the stands is that of those that are gone; no turn leads from None to it.
    """

    def __init__(self, copies, rules):
        """The mornings of the days that have these rules, and the one behind them, in which none begin."""
        self.copies = copies
        self.rules = rules
        self.mornings = [{}]
        for rule in rules:
            self.begin()
            check_many(self.mornings[-1])
            self.go_on(rule)
        check_many(self.mornings[-1])

    def begin(self):
        """Copies begin in the last morning, if they can."""
        if can_begin(self.copies.client, len(self.mornings) - 1):
            self.mornings[-1].setdefault(begun(self.copies.client), None)

    def go_on(self, rule):
        """One day more, with this rule."""
        day = len(self.mornings) - 1
        behind = {}
        for stand in self.mornings[day]:
            for turn, come, _ in self.copies.steps_by(rule, day, stand):
                behind.setdefault(come, (stand, turn))
        self.mornings.append(behind)

    def life(self, day, stand):
        """(client, begin, turns) by which a copy comes to a stand in the morning of a day; turns perhaps empty."""
        found = []
        at = day
        while self.mornings[at][stand] is not None:
            stand, turn = self.mornings[at][stand]
            at -= 1
            if turn is not None:
                found.append(turn)
        return self.copies.client.name, at, tuple(found[::-1])


def check_many(morning):
    """Raises TooMany if there are too many stands in a morning of a history."""
    if len([stand for stand in morning if stand is not None]) > MOST_STANDS:
        raise TooMany(MOST_STANDS)


def lasting(walk):
    """For each morning of a walk a dict: a stand -> (many, turn, behind), for the life that goes on longest from it.

    many is the number of days, from day 0 on, whose rules it can follow; turn and behind tell its next step,
    turn being None where there is none.
    """
    many_days = len(walk.rules)
    found = [{stand: (many_days, None, None) for stand in walk.mornings[many_days]}]
    for day in reversed(range(many_days)):
        here = {}
        for stand in walk.mornings[day]:
            here[stand] = (day, None, None)
            for turn, behind, _ in walk.copies.steps_by(walk.rules[day], day, stand):
                many = found[-1][behind][0]
                if many > here[stand][0]:
                    here[stand] = (many, turn, behind)
        found.append(here)
    return found[::-1]


def turns_on(lasts, day, stand):
    """The turns of the life that goes on longest from a stand in the morning of a day."""
    found = []
    while lasts[day][stand][1] is not None:
        _, turn, stand = lasts[day][stand]
        found.append(turn)
        day += 1
    return tuple(found)


def longest_through(walk, lasts, day, is_wanted):
    """(many, life): the life with a wanted turn on a day that goes on longest, many telling how long.

    is_wanted tells it of a turn and the ears at which a copy can be heard by it. (day, None) if no life has one.
    """
    best = (day, None)
    for stand in walk.mornings[day]:
        for turn, behind, done in walk.copies.steps_by(walk.rules[day], day, stand):
            many = lasts[day + 1][behind][0]
            if turn is not None and is_wanted(turn, done) and many > best[0]:
                client, begin, ahead = walk.life(day, stand)
                best = (many, (client, begin, ahead + (turn,) + turns_on(lasts, day + 1, behind)))
    return best
