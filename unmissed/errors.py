"""The errors of the package: each keeps what it was made with as `value`."""


class UnmissedError(ValueError):
    """What all errors of the package derive from."""

    def __init__(self, value):
        self.value = value


class BadBook(UnmissedError):
    """A text is no book; value is the number of the line, 0 for what is no text."""


class BadName(UnmissedError):
    """There is no such calendar."""


class BadDay(UnmissedError):
    """This is no day."""


class NoClient(UnmissedError):
    """There is no such client."""


class LastClient(UnmissedError):
    """A book keeps one client at least."""


class Unlike(UnmissedError):
    """Two things that are to be put side by side do not go together."""


class Clash(UnmissedError):
    """Both books have this client, or each one the line `one`."""


class TooMany(UnmissedError):
    """There is more of something than the number that is told as value."""


class BadDoor(UnmissedError):
    """There is no such door."""


class BadStand(UnmissedError):
    """This is no stand of the client."""


class BadState(UnmissedError):
    """This is no state of a day."""


class BadTurn(UnmissedError):
    """This is no turn of the client."""


class BadLife(UnmissedError):
    """This is no life."""


class BadHistory(UnmissedError):
    """This is no history."""


class BadReport(UnmissedError):
    """This is no report."""


class CannotBe(UnmissedError):
    """What was heard cannot have been."""


class BadPlan(UnmissedError):
    """This is no plan."""


class BadOffers(UnmissedError):
    """These are no offers."""


class BadTruth(UnmissedError):
    """This is neither True nor False."""


class UnlikeClients(UnmissedError):
    """Two clients cannot be compared."""


class BadEyes(UnmissedError):
    """This is none of those who look."""


class NoDay(UnmissedError):
    """The watch has no such day."""


class NothingToUndo(UnmissedError):
    """No deed can be taken back."""


class NothingToRedo(UnmissedError):
    """No deed can be done again."""


class NoTrial(UnmissedError):
    """No trial goes on."""


class BadText(UnmissedError):
    """This text is no report."""


class BadLines(UnmissedError):
    """These lines are no journal; value is the number of the line, 0 for what is no tuple."""


class BadLine(UnmissedError):
    """A desk does not know this line."""
