"""Section 16: a desk."""

import unittest

from unmissed.asking import still_asked
from unmissed.desk import Desk
from unmissed.harming import harm, harmed
from unmissed.journals import read_journal
from unmissed.texts import show_report
from unmissed.waiting import wait
from unmissed.watches import Watch
from tests.chance import ShutMaker
from tests.samples import ODD_VALUES, SHOP, Book, book_of, book_with, client, raised
from tests.test_asking import last_day, slow_rows
from tests.test_fitting import HEARD, OPEN, QUIET, SHUT, many_stands
from tests.test_journals import DEEDS, HEAD
from tests.test_waiting import CRIES
from tests.test_watches import all_of


def desk_of(book, *lines):
    return Desk((*book.text.split("\n"), "watch price", *lines))


class DeskTest(unittest.TestCase):
    def assert_refused(self, desk, line, name, value):
        """The error that a line raises, behind which all is as ahead of it."""
        ahead = all_of(desk.watch)
        got = raised(desk.say, line)
        self.assertEqual(got[0], name)
        if value is line:
            self.assertIs(got[1], line)
        self.assertEqual(got[1], value)
        self.assertEqual(all_of(desk.watch), ahead)

    def test_a_watch_by_its_journal(self):
        desk = Desk(lines=HEAD + DEEDS)
        self.assertIs(type(desk.watch), Watch)
        self.assertIn("watch", vars(desk))
        self.assertTrue(desk.watch == read_journal(HEAD + DEEDS))
        self.assertEqual(desk.watch.journal, HEAD + DEEDS)
        self.assertIn("say", vars(Desk))

    def test_bad_lines(self):
        for lines, number in (((), 1), (list(HEAD), 0), (None, 0), (HEAD[:-1], len(HEAD)), (HEAD + ("nonsense",), len(HEAD) + 1),
                              (HEAD + ("late 0 open -",), len(HEAD) + 1), (HEAD + ("days 1",), len(HEAD) + 2)):
            self.assertEqual(raised(Desk, lines), ("BadLines", number))

    def test_deeds(self):
        desk = Desk(HEAD)
        for line, answer in (("day open asks/*/none", "done"), ("day open -", "done"), ("late 0 shut -", "done"),
                             ("late 0 shut -", "done"), ("day half asks/shop/some,cries/*/none", "done")):
            self.assertEqual(desk.say(line), answer)
        self.assertEqual(desk.watch.reports, (SHUT, OPEN, ("half", (("asks", "shop", "some"), ("cries", "*", "none")))))
        self.assertEqual(desk.watch.done, 5)
        self.assertEqual(desk.say(line="undo"), "done")
        self.assertEqual([desk.say(line) for line in ("undo", "undo", "undo", "redo")], ["done"] * 4)
        self.assertEqual((desk.watch.reports, desk.watch.done), ((QUIET, OPEN), 2))

    def test_deeds_that_cannot_be(self):
        desk = Desk(HEAD + ("days 1", "4 open asks/*/none", "day open -", "day shut -"))
        desk.say("undo")
        ahead = all_of(desk.watch)
        for line in ("day open asks/shop/some", "late 4 open asks/shop/some", "late 0 open asks/*/none,asks/shop/some"):
            self.assertEqual(desk.say(line), "cannot")
            self.assertEqual(all_of(desk.watch), ahead)
        self.assertEqual(desk.say("late 3 open -"), "done")
        self.assertEqual(desk.say("day open asks/shop/some"), "done")

    def test_undo_and_redo(self):
        desk = Desk(HEAD)
        self.assert_refused(desk, "undo", "NothingToUndo", None)
        self.assert_refused(desk, "redo", "NothingToRedo", None)
        desk.say("day open -")
        self.assert_refused(desk, "redo", "NothingToRedo", None)
        self.assertEqual((desk.say("undo"), desk.say("redo")), ("done", "done"))
        self.assertEqual(desk.watch.done, 1)

    def test_stands(self):
        desk = Desk(HEAD)
        for line, many in ((None, "0"), ("day open -", "2"), ("day open asks/*/none", "0"), ("day half -", "2")):
            if line is not None:
                desk.say(line)
            self.assertEqual(desk.say("stands shop"), many)
        many = desk_of(many_stands("until 0"), "days 1", "30 open -")
        self.assertEqual(many.say("stands shop"), "300")

    def test_asked(self):
        desk = Desk(HEAD)
        for day in range(4):
            self.assertEqual(desk.say("asked"), f"day {day}")
            desk.say("day open asks/*/none")
        self.assertEqual(desk.say("asked"), "never")
        late = desk_of(book_with("if same(k, 3)", "  ask price", calendars=("k 5",)), "days 1", "60 open -")
        self.assertEqual(late.say("asked"), "day 63")

    def test_harm(self):
        desk = Desk(HEAD)
        self.assertEqual(desk.say("harm"), "day 0 shop")
        desk.say("day open asks/*/none")
        self.assertEqual(desk.say("harm"), "day 1 shop")
        for _ in range(3):
            desk.say("day open asks/*/none")
        self.assertEqual(desk.say("harm"), "harmless")
        asks = ["  day", *["    " + line for line in CRIES]]
        slow = ["  cell n 9", "  day", "    if same(n, 5)", *["      " + line for line in CRIES], "    set n more(n)"]
        book = Book(book_of(*client("c", *slow), *client("b", "  day", "    rest"), *client("a", *asks)))
        self.assertEqual(desk_of(book).say("harm"), "day 0 a,c")
        silent = Book(book_of(*client("c", *slow), *client("b", "  day", "    rest")))
        self.assertEqual(desk_of(silent).say("harm"), "day 5 c")

    def test_wait(self):
        desk = Desk(HEAD)
        self.assertEqual(desk.say("wait open asks/*/none"), "days 4")
        desk.say("day open asks/*/none")
        self.assertEqual(desk.say("wait open asks/*/none"), "days 3")
        self.assertEqual(desk.say("wait half asks/*/none,cries/shop/none"), "days 3")
        self.assertEqual(desk_of(book_with(*CRIES)).say("wait open asks/*/none"), "late")
        self.assertEqual(desk_of(book_with(*CRIES, sleeps="always", begins="until 2")).say("wait open asks/*/none"), "ring")
        self.assertEqual(desk_of(book_with("rest")).say("wait open asks/*/none"), "days 0")

    def test_reports(self):
        desk = Desk(HEAD + DEEDS)
        answers = [desk.say(f"report {day}") for day in range(5)]
        self.assertEqual(answers, ["open asks/*/none", "shut -", "open -", "half asks/shop/some", "open -"])
        self.assert_refused(desk, "report 5", "NoDay", 5)
        self.assert_refused(desk, "report 60", "NoDay", 60)
        desk.say("late 4 half asks/shop/some,cries/*/none")
        self.assertEqual(desk.say("report 4"), "half asks/shop/some,cries/*/none")

    def test_journal(self):
        desk = Desk(HEAD)
        self.assertEqual(desk.say("journal"), " ; ".join(HEAD))
        desk = Desk(HEAD + DEEDS)
        desk.say("undo")
        self.assertEqual(desk.say("journal"), " ; ".join(HEAD + DEEDS[:-1]))
        self.assertTrue(Desk(tuple(desk.say("journal").split(" ; "))).watch == desk.watch)

    def test_no_day(self):
        desk = Desk(HEAD)
        for line, number in (("late 0 open -", 0), ("report 0", 0), ("late 60 open -", 60), ("report 7", 7)):
            self.assert_refused(desk, line, "NoDay", number)
        desk.say("day open -")
        for line, number in (("late 1 open -", 1), ("report 1", 1)):
            self.assert_refused(desk, line, "NoDay", number)

    def test_no_client(self):
        desk = Desk(HEAD + DEEDS)
        for word in ("price", "a", "nobody", "shops", "zzzzzzzz"):
            self.assert_refused(desk, f"stands {word}", "NoClient", word)

    def test_bad_reports_of_wait(self):
        desk = Desk(HEAD + DEEDS)
        for text, value in (("open -", OPEN), ("shut -", SHUT), ("open asks/shop/some", HEARD),
                            ("open asks/shop/none", ("open", (("asks", "shop", "none"),))),
                            ("open asks/*/none,cries/shop/some", ("open", (("asks", "*", "none"), ("cries", "shop", "some"))))):
            self.assert_refused(desk, f"wait {text}", "BadReport", value)

    def test_too_many(self):
        desk = desk_of(many_stands("always"), "days 1", "24 open -", "day half -")
        self.assertEqual(desk.say("late 0 open -"), "done")
        self.assertEqual(desk.say("undo"), "done")
        self.assert_refused(desk, "day open -", "TooMany", 300)
        # It goes ahead of what cannot be.
        self.assert_refused(desk, "day open asks/shop/some", "TooMany", 300)
        self.assertEqual(desk.say("late 3 open asks/shop/some"), "cannot")
        rows = desk_of(slow_rows("until 0"))
        for line in ("asked", "harm", "wait open asks/*/none"):
            self.assert_refused(rows, line, "TooMany", 1500)
        self.assert_refused(rows, "wait open -", "BadReport", OPEN)
        self.assertEqual(rows.say("stands shop"), "0")

    def test_too_many_of_the_harmed_clients_alone(self):
        # A course is found on day 0; but another client alone has too many rows.
        lines = slow_rows("always").text.split("\n")
        book = Book("\n".join(lines + client("fast", "  day", *["    " + line for line in CRIES])))
        self.assertEqual(harm(book, "price", ())[0], "harms")
        self.assert_refused(desk_of(book), "harm", "TooMany", 1500)

    def test_no_such_lines(self):
        desk = Desk(HEAD + DEEDS)
        desk.say("undo")
        for line in ("", " ", "day", "day ", "days 0", "day open", "day open - ", " day open -", "day  open -", "Day open -",
                     "day closed -", "day open asks/nobody/none", "day open asks/*/some", "late", "late 0", "late 0 open",
                     "late open -", "late 00 open -", "late 61 open -", "late -1 open -", "late x open -", "late 0 open - ",
                     "late 1 open asks/nobody/none", "late 0  open -", "undo ", " undo", "Undo", "undo 1", "redo ", "redo redo",
                     "stands", "stands ", "stands Shop", "stands shop ", "stands  shop", "stands abcdefghi", "stands shop shop",
                     "stands 1", "stands *", "stand shop", "asked ", "asked shop", "Asked", "harm ", "harm shop", "harmed",
                     "wait", "wait ", "wait open", "wait open asks/nobody/none", "wait  open asks/*/none", "wait 4",
                     "wait open asks/*/none ", "report", "report ", "report 00", "report 01", "report 61", "report -1",
                     "report x", "report  1", "report 1 ", "report 1 1", "report 100", "journal ", "journal 1", "Journal",
                     "watch price", "days 1", "1 open -", "say", "undo\n", "\nundo", "undo\nredo", "day open -\n", "report 1\n",
                     "report +1", "report 1.0", "stands shop\n"):
            with self.subTest(line=line):
                self.assert_refused(desk, line, "BadLine", line)

    def test_other_values(self):
        desk = Desk(HEAD + DEEDS)
        for value in ODD_VALUES + [0, (), ("undo",), ["undo"], OPEN]:
            if value != "":
                with self.subTest(value=value):
                    self.assert_refused(desk, value, "BadLine", value)

    def test_answers_by_chance(self):
        for number in range(60):
            maker = ShutMaker(number)
            book = Book(maker.book())
            door = book.doors[0][0]
            desk = Desk((*book.text.split("\n"), f"watch {door}"))
            for _ in range(3):
                desk.say("day " + show_report(maker.report(book.clients, 0.05)))
            history = desk.watch.history
            told = still_asked(book, door, history)
            self.assertEqual(desk.say("asked"), "never" if told[0] == "never" else f"day {last_day(told[1])}")
            told, names = harm(book, door, history), ",".join(harmed(book, door, history))
            self.assertEqual(desk.say("harm"), "harmless" if names == "" else f"day {last_day(told[1])} {names}")
            told = wait(book, door, history, QUIET)
            self.assertEqual(desk.say("wait open asks/*/none"), " ".join(str(part) for part in told[:2])
                             if told[0] == "days" else told[0])
            self.assertEqual(desk.say("journal"), " ; ".join(desk.watch.journal))


if __name__ == "__main__":
    unittest.main()
