"""Sections 3 and 9 to 12 by books made by chance: what is told is what the naive words tell."""

import unittest

from unmissed.books import Book
from unmissed.fitting import can_be
from unmissed.harming import harm, harmed, hurts, shows_harm, shows_hurts
from unmissed.parting import parted, shows_parted
from unmissed.plans import cheapest, enough, shows_cheapest, shows_enough
from unmissed.waiting import shows_wait, wait
from tests import naive, naive_shut
from tests.chance import ShutMaker, changed
from tests.samples import raised
from tests.test_asking import last_day
from tests.test_plans import naive_shows_cheapest, naive_shows_enough

EYES = ("user", "owner", "both")


def silent(report, more=()):
    """The report without its somes, and with these ears."""
    ears = {ear for ear in report[1] if ear[2] != "some"}
    return report[0], tuple(sorted(ears | set(more)))


class Case:
    """A small book, a door of it, a history that can be, a plan behind it, and a report of silent days."""

    def __init__(self, number):
        self.maker = maker = ShutMaker(number)
        self.book = Book(maker.book())
        self.door = self.book.doors[0][0]
        days = maker.one_of(0, 0, 1, 1, 2, 2, 3)
        most = max(len(naive.naive_turns(self.book, name, naive.naive_first(self.book, name), "half"))
                   for name in self.book.clients)
        days = min(days, 2) if most ** days > 3000 else days
        self.history = maker.history(self.book.clients, days, maker.one_of(0, 0.03, 0.2))
        told = can_be(self.book, self.door, self.history)
        if told[0] != "can":
            self.history = self.history[:told[1]]
        self.reports = naive.naive_days(self.history)
        self.report = silent(maker.report(self.book.clients), [("asks", "*", "none")])
        self.plan = self.a_plan(maker.one_of(0, 1, 2, 3))

    def a_plan(self, days):
        return tuple(silent(self.maker.report(self.book.clients)) for _ in range(days))


class ShutChanceTest(unittest.TestCase):
    def cases(self, first, last):
        for number in range(first, last):
            naive.KEPT.clear()
            case = Case(number)
            if raised(harm, case.book, case.door, case.history)[0] == "CannotBe":
                continue
            with self.subTest(number=number):
                yield case

    def assert_changed(self, told, shows, naive_shows):
        self.assertTrue(naive_shows(told), told)
        self.assertIs(shows(told), True)
        if len(repr(told)) < 250:
            values = changed(told)
            # Of many ones only some, other ones for each case.
            for value in values[len(values) % 7::len(values) // 40 + 1]:
                self.assertIs(shows(value), bool(naive_shows(value)), value)

    def test_harm(self):
        for case in self.cases(0, 250):
            book, door, history, reports = case.book, case.door, case.history, case.reports
            day, table, _ = naive_shut.naive_harm(book, door, reports)
            told = harm(book, door, history)
            if day is None:
                self.assertEqual(told, ("harmless", naive_shut.as_table(table)))
            else:
                self.assertEqual((told[0], last_day(told[1])), ("harms", day))
            self.assert_changed(told, lambda value: shows_harm(book, door, history, value),
                                lambda value: naive_shut.naive_shows_harm(book, door, reports, value))
            names = [name for name in book.clients if naive_shut.naive_harm(book, door, reports, [name])[0] is not None]
            self.assertEqual(harmed(book, door, history), tuple(sorted(names)))

    def test_hurts(self):
        for case in self.cases(250, 500):
            book, door, history, reports, plan = case.book, case.door, case.history, case.reports, case.plan
            day = naive_shut.naive_hurts(book, door, reports, plan)[0]
            told = hurts(book, door, history, plan)
            if day is None:
                self.assertEqual(told, ("gentle",))
            else:
                self.assertEqual((told[0], last_day(told[1])), ("hurts", day))
            self.assert_changed(told, lambda value: shows_hurts(book, door, history, plan, value),
                                lambda value: naive_shut.naive_shows_hurts(book, door, reports, plan, value))

    def test_wait(self):
        for case in self.cases(500, 800):
            book, door, history, reports, report = case.book, case.door, case.history, case.reports, case.report
            expected = naive_shut.naive_wait(book, door, reports, report)
            told = wait(book, door, history, report)
            self.assertEqual(told[0], expected[0])
            if told[0] == "days":
                self.assertEqual((told[1], told[3]), expected[1:])
            self.assert_changed(told, lambda value: shows_wait(book, door, history, report, value),
                                lambda value: naive_shut.naive_shows_wait(book, door, reports, report, value))

    def test_enough(self):
        for case in self.cases(800, 930):
            book, door, history, reports, plan = case.book, case.door, case.history, case.reports, case.plan
            whole = reports + list(plan)
            fault, told = naive.naive_fault(book, door, whole), enough(book, door, history, plan)
            if fault is not None:
                self.assertEqual(told, ("heard", fault))
            else:
                day, table, _ = naive_shut.naive_harm(book, door, whole)
                if day is None:
                    self.assertEqual(told, ("enough", naive_shut.as_table(table)))
                else:
                    self.assertEqual((told[0], last_day(told[1])), ("broken", day))
            self.assert_changed(told, lambda value: shows_enough(book, door, history, plan, value),
                                lambda value: naive_shows_enough(book, door, reports, plan, value))

    def test_cheapest(self):
        for case in self.cases(1050, 1130):
            book, door, history, reports = case.book, case.door, case.history, case.reports
            offers = tuple((case.a_plan(case.maker.one_of(0, 1, 2, 3)), case.maker.one_of(1, 2, 3)) for _ in range(3))
            for gentle in (False, True):
                told = cheapest(book, door, history, offers, gentle=gentle)
                self.assert_changed(told, lambda value: shows_cheapest(book, door, history, offers, value, gentle=gentle),
                                    lambda value: naive_shows_cheapest(book, door, reports, offers, gentle, value))

    def test_parted(self):
        for case in self.cases(1250, 1400):
            book, door = case.book, case.door
            one, other, state = book.clients[0], book.clients[-1], case.maker.one_of("open", "shut", "half")
            if raised(parted, book, one, other, door, state, "both")[0] == "UnlikeClients":
                continue
            for eyes in EYES:
                arguments = (book, one, other, door, state, eyes)
                many, table, _ = naive_shut.naive_parted(*arguments)
                told = parted(*arguments)
                if many is None:
                    self.assertEqual(told, ("alike", naive_shut.as_table(table)))
                else:
                    self.assertEqual((told[0], len(told[2])), ("parted", many))
                self.assert_changed(told, lambda value: shows_parted(*arguments, value),
                                    lambda value: naive_shut.naive_shows_parted(*arguments, value))


if __name__ == "__main__":
    unittest.main()
