"""Watches: a door that is watched, day by day."""

from unmissed.asking import still_asked
from unmissed.copies import Copies
from unmissed.deeds import day_lines, days_lines, late_lines
from unmissed.errors import BadReport, NoDay, NothingToRedo, NothingToUndo, NoTrial, Unlike
from unmissed.fitting import stands, within
from unmissed.harming import harm, harmed
from unmissed.pasts import past_that_can_be
from unmissed.plans import enough
from unmissed.reports import days_of, fold, is_report
from unmissed.values import check_door, is_day
from unmissed.waiting import wait


class Trial:
    """A block behind which a watch is as it was ahead of it, unless it is kept."""

    def __init__(self, watch):
        self.watch = watch
        # None as long as nobody keeps the trial: on leaving, nothing else may be asked of an attribute.
        self.kept = None

    def __enter__(self):
        watch = self.watch
        # The trial in which this one begins; the rest is what the watch is as it begins.
        self.around = watch.block
        self.deeds = watch.deeds
        self.undone = watch.undone
        self.reports = watch.reports
        self.history = watch.history
        self.done = watch.done
        self.journal = watch.journal
        watch.block = self
        return watch

    def __exit__(self, kind, value, trace):
        watch = self.watch
        watch.block = self.around
        if kind is not None or self.kept is None:
            watch.deeds = self.deeds
            watch.undone = self.undone
            watch.reports = self.reports
            watch.history = self.history
            watch.done = self.done
            watch.journal = self.journal


class Watch:
    """A door that is watched."""

    def __init__(self, book, door):
        check_door(book, door)
        self.book = book
        self.door = door
        self.members = {name: Copies(book, door, name) for name in book.clients}
        # The innermost trial that goes on.
        self.block = None
        # Of each deed (its lines, the reports behind it); those that were taken back last stand first.
        self.deeds = ()
        self.undone = ()
        self.reports = ()
        self.history = ()
        self.done = 0
        self.journal = ()
        self.go_to((), ())

    def go_to(self, deeds, undone):
        """Lets these be the deeds that were done, and those that were taken back."""
        self.deeds = deeds
        self.undone = undone
        self.reports = deeds[-1][1] if deeds else ()
        self.history = fold(self.reports)
        self.done = len(deeds)
        lines = [*self.book.text.split("\n"), f"watch {self.door}"]
        for told, _ in deeds:
            lines.extend(told)
        self.journal = tuple(lines)

    def do(self, lines, reports):
        """Does a deed with these lines, behind which the days have these reports."""
        past_that_can_be(self.book, self.door, reports, self.members)
        self.go_to(self.deeds + ((lines, reports),), ())

    def check_report(self, report):
        """Raises BadReport for what is no report."""
        if not is_report(self.book, report):
            raise BadReport(report)

    def check_day(self, day):
        """Raises NoDay for what is no day of the watch."""
        if not is_day(day) or day >= len(self.reports):
            raise NoDay(day)

    def go_on(self, report):
        """One day more."""
        self.check_report(report)
        self.do(day_lines(report), self.reports + (report,))

    def __setitem__(self, day, report):
        self.check_day(day)
        self.check_report(report)
        self.do(late_lines(day, report), self.reports[:day] + (report,) + self.reports[day + 1:])

    def __iadd__(self, history):
        reports = days_of(self.book, history)
        self.do(days_lines(history), self.reports + reports)
        return self

    def __len__(self):
        return len(self.reports)

    def __getitem__(self, day):
        self.check_day(day)
        return self.reports[day]

    def __iter__(self):
        raise TypeError("a watch is not walked over")

    def __contains__(self, report):
        return report in self.reports

    def stands(self, client):
        """All stands that copies of a client have in the last morning."""
        return stands(self.book, self.door, self.history, client)

    def still_asked(self):
        """What still_asked tells."""
        return still_asked(self.book, self.door, self.history)

    def harm(self):
        """What harm tells."""
        return harm(self.book, self.door, self.history)

    def harmed(self):
        """What harmed tells."""
        return harmed(self.book, self.door, self.history)

    def wait(self, report):
        """What wait tells."""
        return wait(self.book, self.door, self.history, report)

    def enough(self, plan):
        """What enough tells."""
        return enough(self.book, self.door, self.history, plan)

    def may_go(self):
        """Whether no user is ever harmed with the door shut from now on."""
        return self.harm()[0] == "harmless"

    def undo(self):
        """Takes back the last deed."""
        if not self.deeds:
            raise NothingToUndo(None)
        self.go_to(self.deeds[:-1], self.deeds[-1:] + self.undone)

    def redo(self):
        """Does the deed again that was taken back last."""
        if not self.undone:
            raise NothingToRedo(None)
        self.go_to(self.deeds + self.undone[:1], self.undone[1:])

    def trial(self):
        """A block to enter: behind it all is as ahead of it, unless it is kept."""
        return Trial(self)

    def keep(self):
        """Keeps what the innermost trial does."""
        block = self.block
        if block is None:
            raise NoTrial(None)
        block.kept = True

    def tried(self, look, *, keep=False):
        """What look, called with the watch in a trial, returns; the trial is kept if keep is True."""
        with self.trial() as held:
            found = look(held)
            if keep is True:
                self.keep()
        return found

    def copy(self):
        """An independent watch that is like this one, outside of all trials."""
        other = Watch(self.book, self.door)
        other.go_to(self.deeds, self.undone)
        return other

    def __eq__(self, other):
        if not isinstance(other, Watch):
            return False
        return self.book == other.book and self.door == other.door and self.reports == other.reports

    def within(self, other):
        """Whether each life that fits these days fits those of the other watch."""
        if not isinstance(other, Watch) or self.book != other.book or self.door != other.door:
            raise Unlike(other)
        if len(self.reports) != len(other.reports):
            raise Unlike(other)
        return within(self.book, self.door, self.history, other.history)[0] == "within"
