"""Sections 3 and 5 to 8 by books made by chance: what is told is what the naive words tell."""

import unittest

from unmissed.asking import shows_still_asked, still_asked
from unmissed.books import Book
from unmissed.days import first_stand, happens, lived, turns
from unmissed.fitting import can_be, shows_can_be, shows_within, stands, within
from unmissed.reports import days_of, fits, folded
from tests import naive
from tests.chance import Maker, changed
from tests.samples import raised

STATES = ("open", "shut", "half")


class Case:
    """A small book, a door of it, and two histories of equally many days, few enough to go through all lives."""

    def __init__(self, number):
        self.maker = Maker(number)
        self.book = Book(self.maker.book())
        self.door = self.maker.one_of(*[name for name, _ in self.book.doors])
        days = self.maker.one_of(0, 1, 2, 2, 3, 3, 4)
        most = max(len(naive.naive_turns(self.book, name, naive.naive_first(self.book, name), "half"))
                   for name in self.book.clients)
        days = min(days, 2) if most ** days > 3000 else days
        self.history = self.maker.history(self.book.clients, days, self.maker.one_of(0.05, 0.2, 0.4))
        self.other = self.changed_history() if days and number % 2 else self.maker.history(self.book.clients, days)
        self.reports, self.others = naive.naive_days(self.history), naive.naive_days(self.other)

    def changed_history(self):
        at = self.maker.chance.randrange(len(self.history))
        row = (1, self.maker.report(self.book.clients))
        return self.history[:at] + (row,) + self.history[at + 1:]


class DaysTest(unittest.TestCase):
    def test_turns_and_what_happens(self):
        for number in range(150):
            naive.KEPT.clear()
            maker = Maker(number)
            book = Book(maker.book(is_small=number % 2 == 0))
            door = maker.one_of(*[name for name, _ in book.doors])
            for client in book.clients:
                self.assert_days(book, door, client, maker)

    def assert_days(self, book, door, client, maker):
        stand, met, outcomes = first_stand(book, client), (), ()
        self.assertEqual(stand, naive.naive_first(book, client))
        for day in range(5):
            for state in STATES:
                self.assertEqual(turns(book, door, client, stand, state),
                                 naive.naive_turns(book, client, stand, state), book.text)
            found = turns(book, door, client, stand, "half")
            for turn in found[:40]:
                told = happens(book, door, client, day, stand, turn)
                self.assertEqual(repr(told), repr(naive.naive_happens(book, door, client, day, stand, turn)), book.text)
            turn = maker.one_of(*found)
            met += (turn,)
            outcomes += (happens(book, door, client, day, stand, turn),)
            self.assertEqual(lived(book, door, (client, 0, met)), outcomes)
            stand = outcomes[-1][0]
            if stand is None:
                return


class ChanceTest(unittest.TestCase):
    def setUp(self):
        naive.KEPT.clear()

    def cases(self, first, last):
        for number in range(first, last):
            case = Case(number)
            with self.subTest(number=number):
                yield case

    def test_fits(self):
        for case in self.cases(0, 60):
            book, door = case.book, case.door
            for client in book.clients:
                lives = naive.lives_that_fit(book, door, case.reports, client)[:30]
                lives += naive.lives_that_fit(book, door, [("half", ())] * len(case.reports), client)[:60]
                for life in lives:
                    if life[2]:
                        expected = naive.naive_fits(book, door, case.reports, life)
                        self.assertIs(fits(book, door, case.history, life), expected, life)

    def test_folded(self):
        for case in self.cases(0, 40):
            reports = tuple(case.maker.one_of(*(case.reports or [("open", ())])) for _ in range(9))
            history = folded(case.book, reports)
            self.assertEqual(days_of(case.book, history), reports)
            self.assertNotIn(True, [one[1] == two[1] for one, two in zip(history, history[1:])])

    def test_can_be_and_stands(self):
        for case in self.cases(0, 140):
            book, door, reports = case.book, case.door, case.reports
            fault, told = naive.naive_fault(book, door, reports), can_be(book, door, case.history)
            if fault is not None:
                self.assertEqual(told, fault, book.text)
            self.assertTrue(naive.naive_shows_can_be(book, door, reports, told), told)
            self.assertIs(shows_can_be(book, door, case.history, told), True)
            for client in book.clients:
                got = raised(stands, book, door, case.history, client)
                if fault is None:
                    self.assertEqual(got, naive.naive_stands(book, door, reports, client))
                    self.assertEqual(got, naive.quick_stands(book, door, reports, client))
                else:
                    longest = fault[1] if fault[0] == "one" else len(fault[4]) - 2
                    self.assertEqual(got, ("CannotBe", longest))

    def test_within(self):
        for case in self.cases(0, 140):
            book, door = case.book, case.door
            told = within(book, door, case.history, case.other)
            self.assertEqual(told == ("within",), naive.naive_is_within(book, door, case.reports, case.others))
            self.assertTrue(naive.naive_shows_within(book, door, case.reports, case.others, told), told)
            self.assertIs(shows_within(book, door, case.history, case.other, told), True)

    def test_still_asked(self):
        for case in self.cases(0, 140):
            book, door = case.book, case.door
            if naive.naive_fault(book, door, case.reports) is not None:
                self.assertEqual(raised(still_asked, book, door, case.history)[0], "CannotBe")
                continue
            day, table = naive.naive_never(book, door, case.reports)
            told = still_asked(book, door, case.history)
            if day is None:
                self.assertEqual(told, ("never", table))
            else:
                self.assertEqual((told[0], told[1][1] + len(told[1][2]) - 1), ("asks", day))
            self.assertTrue(naive.naive_shows_still_asked(book, door, case.reports, told), told)
            self.assertIs(shows_still_asked(book, door, case.history, told), True)

    def test_values_with_one_thing_changed(self):
        for case in self.cases(0, 50):
            book, door, history, other = case.book, case.door, case.history, case.other
            self.assert_changed(can_be(book, door, history),
                                lambda value: shows_can_be(book, door, history, value),
                                lambda value: naive.naive_shows_can_be(book, door, case.reports, value))
            self.assert_changed(within(book, door, history, other),
                                lambda value: shows_within(book, door, history, other, value),
                                lambda value: naive.naive_shows_within(book, door, case.reports, case.others, value))
            told = raised(still_asked, book, door, history)
            if told[0] != "CannotBe":
                self.assert_changed(told, lambda value: shows_still_asked(book, door, history, value),
                                    lambda value: naive.naive_shows_still_asked(book, door, case.reports, value))

    def assert_changed(self, told, shows, naive_shows):
        if len(repr(told)) < 800:
            for value in changed(told):
                self.assertIs(shows(value), bool(naive_shows(value)), value)


if __name__ == "__main__":
    unittest.main()
