"""Two copies that live the same days side by side, and what tells them apart."""

from unmissed.copies import are_from, asleep_behind, begun, can_sleep, is_stand, is_turn, lacks_behind
from unmissed.copies import least_choices, outcome_of, stand_behind, waking_day, waking_turns
from unmissed.rules import can_meet

USER = "user"
OWNER = "owner"
EYES = ("user", "owner", "both")
# What happens on a day to a side that is gone.
NOTHING = (None, (), False, False)
BOTH_GONE = (None, None)


def row_key(row):
    """What rows are sorted by whose last two items are a pair, None behind all stands."""
    return row[:-2], [(stand is None, stand) for stand in row[-2:]]


def table_of(rows):
    """The ascending tuple of rows whose last two items are a pair."""
    return tuple(sorted(list(rows), key=row_key))


class Twins:
    """Two copies, sides, of clients that share turns; their pairs are (stand, stand), None for a side that is gone."""

    def __init__(self, clients, door, eyes, has_met):
        """eyes are those that compare the sides; if has_met, the first side meets the door whatever the turn tells."""
        self.clients = clients
        self.door = door
        self.eyes = eyes
        self.has_met = has_met
        self.first = (begun(clients[0]), begun(clients[1]))
        self.rounds = clients[0].book.rounds
        self.kept_days = {}
        self.kept_runs = {}

    def is_pair(self, one, other):
        """Whether any values are a pair by its form, with a stand on one side at least."""
        if one is None or other is None:
            return is_stand(self.clients[0], one) or is_stand(self.clients[1], other)
        if not is_stand(self.clients[0], one) or not is_stand(self.clients[1], other):
            return False
        return one[1:] == other[1:]

    def is_let(self, state, pair, turn):
        """Whether any value is a turn that is allowed to a pair on a day of a state."""
        if pair == BOTH_GONE or not is_turn(self.clients, there_of(pair), turn):
            return False
        return turn == () or can_meet(state, turn[2])

    def side_turn(self, side, turn):
        """The turn of a side."""
        if self.has_met and side == 0 and turn != ():
            return turn[:2] + (True,)
        return turn

    def seen_by_eyes(self, outcome):
        """What the eyes see of what happens."""
        _, seen, asked, cried = outcome
        if self.eyes == USER:
            return seen
        if self.eyes == OWNER:
            return asked, cried
        return seen, asked, cried

    def are_apart(self, outcomes):
        """Whether the eyes see a difference between what happens to both sides."""
        one, other = outcomes
        return self.seen_by_eyes(one) != self.seen_by_eyes(other)

    def after(self, day, pair, turn):
        """(pair behind, whether the eyes see a difference) of one turn."""
        outcomes = []
        for side, stand in enumerate(pair):
            met = self.side_turn(side, turn)
            outcomes.append(NOTHING if stand is None else outcome_of(self.clients[side], self.door, day, stand, met))
        return (outcomes[0][0], outcomes[1][0]), self.are_apart(outcomes)

    def are_apart_last(self, day, pair, states, turns):
        """Whether the eyes see a difference on the last of these turns, and not ahead, from a pair on a day on.

        states are those of this day and the ones behind it; on others no turn is allowed.
        """
        if len(turns) > len(states):
            return False
        for at, turn in enumerate(turns):
            if not self.is_let(states[at], pair, turn):
                return False
            pair, is_apart = self.after(day + at, pair, turn)
            if is_apart:
                return at == len(turns) - 1
        return False

    def waking(self, side, day, cells, turn):
        """What happens to a side with these cells, as waking_day tells it; it is gone if they are None."""
        if cells is None:
            return NOTHING
        key = (side, day % self.rounds, cells, self.side_turn(side, turn))
        if key not in self.kept_days:
            self.kept_days[key] = waking_day(self.clients[side], self.door, day, cells, key[3])
        return self.kept_days[key]

    def runs(self, state, day, both):
        """Lists of (turn, cells of both sides behind, is_apart), as those of Copies, for sides with these cells."""
        key = (state, day % self.rounds, both)
        if key not in self.kept_runs:
            self.kept_runs[key] = self.new_runs(state, day, both)
        return self.kept_runs[key]

    def new_runs(self, state, day, both):
        """Works out the runs of a day."""
        client = self.clients[0]
        lackless = (0,) * len(client.users)
        found = {}
        for turn in waking_turns(self.clients, lackless, state):
            outcomes = [self.waking(side, day, cells, turn) for side, cells in enumerate(both)]
            left = (outcomes[0][0], outcomes[1][0])
            group = found.setdefault(lacks_behind(client, lackless, turn[0]), {})
            group.setdefault((left, self.are_apart(outcomes)), turn)
        return [[(turn, left, is_apart) for (left, is_apart), turn in rows.items()] for rows in found.values()]

    def steps(self, state, day, pair):
        """A list of (turn, pair behind, whether the eyes see a difference) that has all that can be on a day."""
        client = self.clients[0]
        _, _, lacks, age = there_of(pair)
        found = []
        if can_sleep(client, there_of(pair)):
            asleep = [None if stand is None else asleep_behind(client, stand) for stand in pair]
            found.append(((), tuple(asleep), False))
        leasts = least_choices(client, lacks)
        for group in self.runs(state, day, tuple([None if stand is None else stand[0] for stand in pair])):
            choices = group[0][0][0]
            if are_from(choices, leasts):
                now = lacks_behind(client, lacks, choices)
                for turn, left, is_apart in group:
                    behind = tuple([stand_behind(client, cells, 0, now, age) for cells in left])
                    found.append((turn, behind, is_apart))
        return found


def there_of(pair):
    """The stand of a side that is there."""
    one, other = pair
    return other if one is None else one
