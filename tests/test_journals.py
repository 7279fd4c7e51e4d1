"""Section 15: journals."""

import unittest

from unmissed.books import Book
from unmissed.journals import read_journal
from unmissed.watches import Watch
from tests.samples import FULL, ODD_VALUES, SHOP, WEEK, book_with, fault, raised
from tests.test_fitting import HALF, HEARD, OPEN, QUIET, SHUT, many_stands, report

BOOK = tuple(SHOP.split("\n"))
HEAD = BOOK + ("watch price",)
DEEDS = ("day open asks/*/none", "days 2", "2 open -", "1 half asks/shop/some", "late 1 shut -", "days 0", "day open -")
# The numbers of the lines of the deeds, the first one being that of "day".
FIRST = len(HEAD) + 1


class Base(unittest.TestCase):
    def assert_bad(self, lines, number):
        with self.subTest(lines=lines[len(HEAD):] if isinstance(lines, tuple) else lines):
            self.assertEqual(raised(read_journal, lines), ("BadLines", number))

    def assert_bad_deeds(self, *rows):
        """rows are lines behind the line `watch`, the last item the number of the wrong one, from 0."""
        self.assert_bad(HEAD + rows[:-1], FIRST + rows[-1])


class ReadTest(Base):
    def test_no_deeds(self):
        for text, door in ((SHOP, "price"), (WEEK, "price"), (FULL, "price"), (FULL, "stock")):
            watch = read_journal((*text.split("\n"), f"watch {door}"))
            self.assertIs(type(watch), Watch)
            self.assertEqual((watch.book, watch.door, watch.reports, watch.done), (Book(text), door, (), 0))
            self.assertEqual(watch.journal, (*text.split("\n"), f"watch {door}"))

    def test_deeds(self):
        watch = read_journal(lines=HEAD + DEEDS)
        self.assertEqual(watch.reports, (QUIET, SHUT, OPEN, ("half", (("asks", "shop", "some"),)), OPEN))
        self.assertEqual((watch.done, watch.journal), (5, HEAD + DEEDS))
        self.assertEqual(raised(watch.redo), ("NothingToRedo", None))
        other = Watch(Book(SHOP), "price")
        other.go_on(QUIET)
        other += ((2, OPEN), (1, ("half", (("asks", "shop", "some"),))))
        other[1] = SHUT
        other += ()
        other.go_on(OPEN)
        self.assertEqual((other.journal, other == watch), (HEAD + DEEDS, True))

    def test_they_can_be_taken_back(self):
        watch = read_journal(HEAD + DEEDS)
        many = [5, 4, 4, 4, 1, 0]
        for at in range(1, 6):
            watch.undo()
            self.assertEqual((len(watch), watch.done), (many[at], 5 - at))
        self.assertEqual(raised(watch.undo), ("NothingToUndo", None))
        watch.redo()
        self.assertEqual(watch.journal, HEAD + DEEDS[:1])

    def test_a_journal_has_deeds_that_were_not_taken_back(self):
        watch = read_journal(HEAD + DEEDS)
        watch.undo()
        watch.undo()
        self.assertEqual(watch.journal, HEAD + DEEDS[:5])
        again = read_journal(watch.journal)
        self.assertTrue(again == watch)
        self.assertEqual(raised(again.redo), ("NothingToRedo", None))

    def test_rows_are_those_that_were_added(self):
        rows = ("days 3", "1 open -", "1 open -", "60 open -")
        watch = read_journal(HEAD + rows)
        self.assertEqual((watch.journal, len(watch)), (HEAD + rows, 62))

    def test_sixty(self):
        watch = read_journal(HEAD + ("days 60",) + ("1 open -",) * 60)
        self.assertEqual(watch.history, ((60, OPEN),))
        watch.go_on(OPEN)
        watch[60] = SHUT
        self.assertEqual(read_journal(watch.journal).reports, watch.reports)
        self.assert_bad_deeds("days 61", *["1 open -"] * 61, 0)
        self.assert_bad_deeds("days 1", "61 open -", 1)
        # By its form the line cannot be: so it goes ahead of the deed that is refused.
        self.assert_bad_deeds("late 0 open -", "late 61 open -", 1)
        self.assert_bad_deeds("late 0 open -", "late 60 open -", 0)


class BookLinesTest(Base):
    def test_no_tuple(self):
        for value in ODD_VALUES + [0, list(HEAD), "\n".join(HEAD), {}, None]:
            self.assert_bad(value, 0)

    def test_no_lines(self):
        self.assert_bad((), 1)
        self.assert_bad(("",), 1)
        self.assert_bad((None,), 1)
        self.assert_bad(("watch price",), 1)
        self.assert_bad((SHOP,), 1)

    def test_lines_of_the_book(self):
        # Up to the line `watch` the number is the one that BadBook tells.
        for text in (SHOP, WEEK, FULL):
            lines = text.split("\n")
            for at in range(len(lines)):
                for wrong in (lines[:at] + lines[at + 1:], lines[:at] + [lines[at]] + lines[at:],
                              lines[:at] + [""] + lines[at + 1:], lines[:at] + [lines[at] + " "] + lines[at + 1:],
                              lines[:at] + ["cry"] + lines[at:], lines[:at]):
                    expected = fault("\n".join(wrong)) if wrong else 1
                    if expected is not None:
                        self.assert_bad((*wrong, "watch price"), expected)
                        self.assert_bad((*wrong, "watch price", "nonsense"), expected)

    def test_items_that_are_no_strings(self):
        for at in range(len(HEAD + DEEDS)):
            for value in [None, 0, True, (), [], {}, ("day open -",), 1, Book(SHOP)]:
                lines = (HEAD + DEEDS)[:at] + (value,) + (HEAD + DEEDS)[at + 1:]
                self.assert_bad(lines, at + 1)
                self.assert_bad(lines[:at + 1], at + 1)

    def test_an_item_of_several_lines(self):
        for at in range(len(HEAD + DEEDS) - 1):
            lines = HEAD + DEEDS
            self.assert_bad(lines[:at] + (lines[at] + "\n" + lines[at + 1],) + lines[at + 2:], at + 1)
            self.assert_bad(lines[:at] + (lines[at] + "\n",) + lines[at + 1:], at + 1)
            self.assert_bad(lines[:at] + ("\n" + lines[at],) + lines[at + 1:], at + 1)

    def test_the_first_fault(self):
        wrong = HEAD[:3] + ("  lives never",) + HEAD[4:8] + (None,) + HEAD[9:]
        self.assert_bad(wrong, 4)
        self.assert_bad(wrong[:2] + (7,) + wrong[3:], 3)
        self.assert_bad(HEAD[:-1] + ("watch stock", None), len(HEAD))

    def test_the_line_watch(self):
        self.assert_bad(BOOK, len(HEAD))
        for line in ("watch", "watch ", "watch stock", "watch price ", " watch price", "watch  price", "watch price price",
                     "Watch price", "watch shop", "watchprice", "watch\tprice", "watch price\n", "", "day open -", "days 0",
                     None, ("watch", "price")):
            self.assert_bad(BOOK + (line,), len(HEAD))
            self.assert_bad(BOOK + (line,) + DEEDS, len(HEAD))
            self.assert_bad(BOOK + (line, "watch price"), len(HEAD))

    def test_the_line_watch_ahead_of_the_end_of_the_book(self):
        # A book may end behind each statement.
        for at in range(len(BOOK)):
            expected = fault("\n".join(BOOK[:at])) if at else 1
            if expected is None:
                self.assert_bad(BOOK[:at] + ("watch price",) + BOOK[at:], at + 2)
            else:
                self.assertEqual(expected, at + 1)
                self.assert_bad(BOOK[:at] + ("watch price",) + BOOK[at:], at + 1)

    def test_two_lines_watch(self):
        self.assert_bad(HEAD + ("watch price",), len(HEAD) + 1)
        self.assert_bad(HEAD + DEEDS + ("watch price",), len(HEAD + DEEDS) + 1)

    def test_doors(self):
        two = tuple(FULL.split("\n"))
        self.assertEqual([read_journal(two + (f"watch {door}",)).door for door in ("price", "stock")], ["price", "stock"])
        self.assert_bad(two + ("watch week",), len(two) + 1)


class DeedLinesTest(Base):
    def test_forms(self):
        for line in ("", " ", "day", "day ", "day open", "day open ", "day  open -", " day open -", "day open - ", "Day open -",
                     "day closed -", "day open asks/nobody/none", "day open asks/*/some", "day 1 open -", "late open -",
                     "late  0 open -", "late 00 open -", "late -1 open -", "late 0", "late 0 ", "late 0 open", "late 01 open -",
                     "late 61 open -", "late 100 open -", "late x open -", "late 0 open asks/nobody/some", "late 0 0 open -",
                     "1 open -", "60 half -", "day open -,", "undo", "redo", "stands shop", "harm", "report 0", "journal",
                     "door price 2", "    tell kept", "late +1 open -", "day\topen -", "day open cries/shop/none,asks/*/none"):
            self.assert_bad_deeds(line, 0)
            self.assert_bad_deeds("day open -", line, "day open -", 1)

    def test_forms_of_days(self):
        for line in ("days", "days ", "days -1", "days 00", "days 01", "days 61", "days x", "days 1 ", " days 1", "days  1",
                     "days 1 open -", "Days 1", "day 1", "days open -", "days 100", "days 1.0", "days +1"):
            self.assert_bad_deeds(line, 0)
            self.assert_bad_deeds(line, "1 open -", 0)

    def test_forms_of_rows(self):
        for line in ("", "open -", "0 open -", "61 open -", "01 open -", "1 open", "1  open -", " 1 open -", "1 open - ",
                     "day open -", "late 0 open -", "days 0", "days 1", "x open -", "1 closed -", "1 open asks/nobody/none",
                     "-1 open -", "1", "1 ", "1 1 open -", "watch price", "100 open -"):
            self.assert_bad_deeds("days 1", line, 1)
            self.assert_bad_deeds("days 3", "1 open -", line, "1 open -", 2)

    def test_rows_that_are_missing_or_too_many(self):
        self.assert_bad_deeds("days 1", 1)
        self.assert_bad_deeds("days 60", "1 open -", 2)
        self.assert_bad_deeds("day open -", "days 2", "1 open -", 3)
        self.assert_bad_deeds("days 0", "1 open -", 1)
        self.assert_bad_deeds("days 1", "1 open -", "1 open -", 2)
        self.assert_bad_deeds("days 2", "1 open -", "day open -", 2)

    def test_a_line_left_out_twice_or_exchanged(self):
        lines = HEAD + DEEDS
        for at in range(len(HEAD), len(lines)):
            for wrong in (lines[:at] + lines[at + 1:], lines[:at] + (lines[at],) + lines[at:],
                          lines[:at] + lines[at + 1:at + 2] + (lines[at],) + lines[at + 2:], lines[:at] + ("day half -",) +
                          lines[at + 1:]):
                got = raised(read_journal, wrong)
                expected = naive_read(wrong[len(HEAD):])
                if isinstance(expected, int):
                    self.assertEqual(got, ("BadLines", FIRST + expected))
                else:
                    self.assertEqual((got.reports, got.journal), (tuple(expected), wrong))

    def test_deeds_that_are_refused(self):
        never = "open asks/*/none,asks/shop/some"
        self.assert_bad_deeds("day " + never, 0)
        self.assert_bad_deeds("day open -", "late 0 " + never, 1)
        self.assert_bad_deeds("day open -", "late 1 open -", 1)
        self.assert_bad_deeds("late 0 open -", 0)
        self.assert_bad_deeds("days 2", "4 open asks/*/none", "1 open asks/shop/some", 0)
        self.assert_bad_deeds("day open -", "days 3", "1 open -", "1 " + never, "1 open -", "day open -", 1)
        self.assert_bad_deeds("days 1", "4 open asks/*/none", "day open asks/shop/some", 2)
        self.assert_bad_deeds("late 60 open -", 0)

    def test_forms_go_ahead_of_deeds_that_are_refused(self):
        never = "open asks/*/none,asks/shop/some"
        self.assert_bad_deeds("day " + never, "day open -", "nonsense", 2)
        self.assert_bad_deeds("late 9 open -", "days 1", 2)
        self.assert_bad_deeds("late 9 open -", "days 1", "day open -", 2)
        self.assert_bad_deeds("late 9 open -", "day open asks/nobody/none", 1)
        self.assert_bad_deeds("late 9 open -", "day " + never, 0)

    def test_too_many_stands(self):
        head = (*many_stands("always").text.split("\n"), "watch price")
        self.assertEqual(len(read_journal(head + ("days 1", "25 open -"))), 25)
        self.assertEqual(raised(read_journal, head + ("days 1", "26 open -")), ("BadLines", len(head) + 1))
        self.assertEqual(raised(read_journal, head + ("days 1", "25 open -", "day open -", "day shut -")),
                         ("BadLines", len(head) + 3))

    def test_the_one_copy(self):
        head = (*book_with("ask price", begins="one").text.split("\n"), "watch price")
        self.assertEqual(raised(read_journal, head + ("day open asks/shop/some", "day open asks/*/none")),
                         ("BadLines", len(head) + 2))
        watch = read_journal(head + ("day open asks/shop/some",))
        self.assertEqual(watch.reports, (HEARD,))


def naive_read(rows):
    """The reports of deeds of a shop, which all can be; the number of the wrong line, from 0, if there is one."""
    texts = {"open asks/*/none": QUIET, "open -": OPEN, "half asks/shop/some": report("half", "asks/shop/some"),
             "shut -": SHUT, "half -": HALF}
    deeds, at = [], 0
    while at < len(rows):
        first, (word, _, told) = at, rows[at].partition(" ")
        at += 1
        if word == "days":
            added = []
            for _ in range(int(told)):
                if at == len(rows) or not rows[at][0].isdigit():
                    return at
                many, _, text = rows[at].partition(" ")
                added += [texts[text]] * int(many)
                at += 1
            deeds.append((first, "days", added))
        elif word == "day":
            deeds.append((first, "days", [texts[told]]))
        elif word == "late":
            day, _, text = told.partition(" ")
            deeds.append((first, int(day), texts[text]))
        else:
            return first
    reports = []
    for first, kind, thing in deeds:
        if kind == "days":
            reports += thing
        elif kind >= len(reports):
            return first
        else:
            reports[kind] = thing
    return reports


if __name__ == "__main__":
    unittest.main()
