"""Sections 4, 15 and 16: all of a text, a journal or a line is looked at.

What was read, written again, is what was handed in, to the letter; also where this was made by chance out of something
right. So nothing can have been passed over.
"""

import re
import unittest

from unmissed.books import Book
from unmissed.desk import Desk
from unmissed.errors import BadLine, BadLines, BadText, UnmissedError
from unmissed.journals import read_journal
from unmissed.texts import read_report, show_report
from tests.chance import Maker, ShutMaker, spoiled
from tests.samples import FULL, SHOP, WEEK, fault, raised
from tests.written import book_text

BOOK_SIGNS = ("(", ")", ", ", ", (", "not(", "same(", "not", "less", " ", "  ", "\n", "\n  ", "0", "1", "2", "3",
              "x", "u", "k", "price", "rest", "cry", "tell", "always", "until", "within 2", "else", "\nelse", "\t", "-")
LINE_SIGNS = (" ", ",", "/", "-", "0", "1", "6", "*", "open", "shut", "half", "some", "none", "asks", "cries", "a", "b",
              "day", "late", "days", "wait", "stands", "report", "undo", "\n", "\t", "/none", ",cries/*/none")
# A client in which there stand many expressions.
MANY = "\n".join(["calendar k 2", "door price 2", "client c", "  one", "  sleeps 0", "  cell x 2", "  user u 3",
                  "  day", "    if same(x, and(k, not(u)))", "      tell less(fewer(more(x)), or(u, 1))",
                  "    set x more(same(k, 0))", "    ask price x", "    else", "      tell not(same(not(x), more(u)))"])
# A book whose expression leaves a bracket open; {} is that line.
OPEN_BOOK = "door d 1\nclient c\n  one\n  sleeps 0\n  cell a 2\n  day\n    {}"


def books(many):
    """Texts of books whose calendars have other sizes than one another."""
    found = [SHOP, WEEK, FULL, MANY]
    for number in range(many):
        text = (Maker if number % 2 else ShutMaker)(number).book(is_small=False)
        if len({size for _, size in Book(text).calendars}) == len(Book(text).calendars):
            found.append(text)
    return found


class BookTest(unittest.TestCase):
    def test_right_books(self):
        for text in books(200):
            self.assertEqual(book_text(Book(text)), text)

    def test_books_changed_by_chance(self):
        maker, many = Maker(0), 0
        for text in books(100) + [MANY] * 50:
            for _ in range(200):
                other = spoiled(text, maker, BOOK_SIGNS)
                if fault(other) is None:
                    book = Book(other)
                    if len({size for _, size in book.calendars}) == len(book.calendars):
                        self.assertEqual(book_text(book), other)
                        many += other != text
        # Among these there are books enough that are still right, and other ones.
        self.assertGreater(many, 100)

    def test_brackets_left_open(self):
        for line in ("tell not(0, (0)", "tell more(1, ()", "tell fewer(2, not(0)", "tell same(0, 1, same(0, 1)",
                     "tell not(same(0, 1), same(0, 1)", "set a more(a, same(a, 0)", "if not(1, less(0, 1)\n      rest"):
            text = OPEN_BOOK.format(line)
            lines = (*text.split("\n"), "watch d", "day open -")
            with self.subTest(line):
                self.assertEqual(fault(text), 7)
                self.assertEqual(raised(read_journal, lines), ("BadLines", 7))
                self.assertEqual(raised(Desk, lines), ("BadLines", 7))


def naive_is_report(names, text):
    """Whether a text writes a report by the words of section 15, names being those of the clients."""
    who = "|".join(names)
    one = rf"(?:asks|cries)/(?:\*/none|(?:{who})/(?:some|none))"
    if not re.fullmatch(rf"(?:open|shut|half) (?:-|{one}(?:,{one})*)", text):
        return False
    heads = [ear.rpartition("/")[0].split("/") for ear in text.partition(" ")[2].split(",")]
    return all(one < other for one, other in zip(heads, heads[1:]))


def naive_is_line(names, text):
    """Whether a text is a line of a desk by the words of section 16."""
    number = "(?:[0-9]|[1-5][0-9]|60)"
    if re.fullmatch(rf"undo|redo|asked|harm|journal|stands [a-z]{{1,8}}|report {number}", text):
        return True
    found = re.fullmatch(rf"(?:day|wait|late {number}) (.*)", text, re.DOTALL)
    return found is not None and naive_is_report(names, found.group(1))


class LineTest(unittest.TestCase):
    def test_reports_changed_by_chance(self):
        many = 0
        for number in range(300):
            maker = Maker(number)
            book = Book(maker.book())
            text = show_report(maker.report(book.clients))
            for _ in range(100):
                other = spoiled(text, maker, LINE_SIGNS)
                try:
                    self.assertEqual(show_report(read_report(book, other)), other)
                    many += other != text
                except BadText:
                    self.assertFalse(naive_is_report(book.clients, other), other)
        self.assertGreater(many, 50)

    def test_journals_changed_by_chance(self):
        many = 0
        for number in range(60):
            maker = Maker(number)
            book = Book(maker.book())
            lines = book.text.split("\n") + [f"watch {book.doors[0][0]}"]
            deeds = [f"day {show_report(maker.report(book.clients, 0))}", "days 2"]
            deeds += [f"{days} {show_report(maker.report(book.clients, 0))}" for days in (1, 2)]
            deeds += [f"late 1 {show_report(maker.report(book.clients, 0))}", "days 0", "day half -"]
            for _ in range(200):
                at = maker.chance.randrange(len(deeds))
                changed = (*lines, *deeds[:at], *spoiled(deeds[at], maker, LINE_SIGNS).split("\n"), *deeds[at + 1:])
                try:
                    self.assertEqual(read_journal(changed).journal, changed)
                    many += changed != (*lines, *deeds)
                except BadLines as error:
                    self.assertLess(len(lines), error.value)
        self.assertGreater(many, 25)

    def test_lines_of_a_desk_changed_by_chance(self):
        many = 0
        for number in range(60):
            maker = Maker(number)
            book = Book(maker.book())
            desk = Desk((*book.text.split("\n"), f"watch {book.doors[0][0]}", "days 1", "2 half -"))
            report = show_report(maker.report(book.clients, 0))
            for line in ("undo", "redo", "asked", "journal", "stands a", "report 1", f"day {report}",
                         f"late 1 {report}", f"wait {report}"):
                for _ in range(12):
                    many += self.assert_said(desk, spoiled(line, maker, LINE_SIGNS))
        self.assertGreater(many, 500)

    def assert_said(self, desk, line):
        """Whether the desk knows a line; what it does of it is written again as the line."""
        done = desk.watch.done
        try:
            answer = desk.say(line)
        except BadLine:
            self.assertFalse(naive_is_line(desk.watch.book.clients, line), line)
            return False
        except UnmissedError:
            answer = None
        self.assertTrue(naive_is_line(desk.watch.book.clients, line), line)
        if answer == "done" and line not in ("undo", "redo"):
            self.assertEqual((desk.watch.done, desk.watch.journal[-1]), (done + 1, line))
        return True


if __name__ == "__main__":
    unittest.main()
