"""Pasts: which stands copies can have by a history, and from where on it cannot be."""

from unmissed.copies import Copies
from unmissed.errors import CannotBe
from unmissed.rules import been_rules, fit_rules, somes_of
from unmissed.walks import Walk, lasting, longest_through


class Past:
    """The walks of all clients through the days of these reports; TooMany where they are too many."""

    def __init__(self, book, door, reports, members=None):
        """members is a dict: the name of a client -> its Copies; None makes new ones."""
        self.book = book
        self.door = door
        self.reports = reports
        self.one = None
        self.members = members
        if members is None:
            self.members = {name: Copies(book, door, name) for name in book.clients}
        # By the lives that fit, and by those that can have been.
        self.fit_walks = {}
        self.been_walks = {}
        for name in book.clients:
            copies = self.members[name]
            self.fit_walks[name] = Walk(copies, fit_rules(reports, name))
            self.been_walks[name] = self.fit_walks[name]
            if book[name].is_one:
                self.one = name
                self.been_walks[name] = Walk(copies, been_rules(reports, book[name]))

    def longest_of_one(self):
        """How many days the longest beginning has by which a life of the one copy can have been."""
        if self.one is None:
            return len(self.reports)
        mornings = self.been_walks[self.one].mornings
        many = 0
        while many < len(self.reports) and mornings[many + 1]:
            many += 1
        return many


def life_that_has(walk, lasts, day, ear):
    """(many, life): the life that goes on longest of those that have a some."""
    return longest_through(walk, lasts, day, lambda turn, done: ear in done)


def lives_of_somes(past):
    """A dict: each some of a client without the line `one` -> (many, life), as life_that_has tells them."""
    lasts = {}
    found = {}
    for some in somes_of(past.reports):
        day, ear, name = some
        if name == past.one:
            continue
        if name not in lasts:
            lasts[name] = lasting(past.fit_walks[name])
        found[some] = life_that_has(past.fit_walks[name], lasts[name], day, ear)
    return found


def longest_beginning(past, lives):
    """How many days the longest beginning has that can be, lives being those of the somes."""
    return min([past.longest_of_one()] + [many for many, _ in lives.values()])


def past_that_can_be(book, door, reports, members=None):
    """The past of these reports; CannotBe if they cannot be."""
    past = Past(book, door, reports, members)
    many = longest_beginning(past, lives_of_somes(past))
    if many < len(reports):
        raise CannotBe(many)
    return past
