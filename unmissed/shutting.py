"""What comes of copies at a door that is shut, each put beside itself at the open door."""

from unmissed.coming import is_moment_of
from unmissed.rules import SHUT
from unmissed.twins import BOTH_GONE, USER, Twins


def twins_of(client, door):
    """A copy of the client as it is, the second side, beside itself with the door open."""
    return Twins((client, client), door, USER, True)


class ShutRows:
    """The rows (moment, client, one, other) that come with the door shut for ever: one with it open, other as it is."""

    def __init__(self, coming):
        self.coming = coming
        self.book = coming.book
        self.twins = {name: twins_of(coming.book[name], coming.door) for name in coming.walks}

    def starts(self, later):
        """The rows with which copies begin to come, so many days behind the first one."""
        moment = self.coming.moment(later)
        return [(moment, name, stand, stand) for name, stand in self.coming.starts(later)]

    def all_starts(self):
        """The rows with which copies begin to come, on any day."""
        return [(self.coming.moment(later), name, stand, stand) for later, name, stand in self.coming.all_starts()]

    def state_of(self, moment):
        """The state of a day."""
        return SHUT

    def then(self, moment):
        """The moment behind a moment, None if it is not looked at."""
        return self.book.moment(moment + 1)

    def steps(self, row):
        """A list of (turn, row behind, whether the user sees a difference); None of those of which both are gone."""
        moment, name, one, other = row
        then = self.then(moment)
        found = []
        for turn, pair, is_apart in self.twins[name].steps(self.state_of(moment), moment, (one, other)):
            is_row = then is not None and pair != BOTH_GONE
            found.append((turn, (then, name) + pair if is_row else None, is_apart))
        return found

    def is_row(self, value):
        """Whether any value is a row by its form."""
        if not isinstance(value, tuple) or len(value) != 4:
            return False
        moment, name, one, other = value
        return is_moment_of(self.book, name, moment) and self.twins[name].is_pair(one, other)


class TrialRows(ShutRows):
    """The rows (day, client, one, other) that come in the mornings of a plan's days: one with the door open on all."""

    def __init__(self, coming, plan):
        ShutRows.__init__(self, coming)
        self.plan = plan

    def starts(self, later):
        """The rows with which copies begin to come, so many days behind the first one."""
        if later >= len(self.plan):
            return []
        day = self.coming.day + later
        return [(day, name, stand, stand) for name, stand in self.coming.starts(later)]

    def state_of(self, moment):
        """The state of a day of the plan."""
        return self.plan[moment - self.coming.day][0]

    def then(self, moment):
        """The day behind a day, None behind the plan."""
        then = moment + 1
        return then if then < self.coming.day + len(self.plan) else None
