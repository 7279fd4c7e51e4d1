"""Section 15: reports as texts."""

import unittest

from unmissed.books import Book
from unmissed.reports import is_report
from unmissed.texts import read_report, show_report
from tests.chance import Maker, changed
from tests.samples import ODD_VALUES, SHOP, book_of, client, raised
from tests.test_fitting import HALF, HEARD, OPEN, QUIET, SHUT, report

TWO = Book(book_of(*client("a", "  day", "    rest"), *client("b", "  day", "    rest")))


class ShowReportTest(unittest.TestCase):
    def test_texts(self):
        for value, text in (
            (OPEN, "open -"), (SHUT, "shut -"), (HALF, "half -"), (QUIET, "open asks/*/none"),
            (HEARD, "open asks/shop/some"),
            (report("open", "cries/shop/none", "asks/*/none"), "open asks/*/none,cries/shop/none"),
            (report("half", "asks/a/some", "asks/b/none", "cries/*/none", "cries/zzzzzzzz/some"),
             "half asks/a/some,asks/b/none,cries/*/none,cries/zzzzzzzz/some"),
        ):
            self.assertEqual(show_report(value), text)
            self.assertEqual(show_report(report=value), text)

    def test_any_name(self):
        for name in ("a", "nobody", "abcdefgh", "some", "asks"):
            self.assertEqual(show_report(("open", (("asks", name, "none"),))), f"open asks/{name}/none")
        for name in ("", "A", "abcdefghi", "a b", "a1", "a/b", "**", "a,b", None, 1, ("a",), "-"):
            value = ("open", (("asks", name, "none"),))
            self.assertEqual(raised(show_report, value), ("BadReport", value))

    def test_no_reports(self):
        values = ODD_VALUES + [0, (), "open", ("open",), ("open", [], ()), ["open", ()], ("Open", ()), (None, ()),
                               (["open"], ()), ("open", None), ("open", []), ("open", "asks"), ("open", ((),)), (1, OPEN),
                               ("open", (("asks", "*", "some"),)), ("open", (("ask", "a", "some"),)), ("open", ("asks",)),
                               ("open", (("asks", "a", "Some"),)), ("open", (["asks", "a", "some"],)),
                               ("open", (("asks", "a", "some"), ("asks", "a", "none"))),
                               ("open", (("asks", "a", "some"), ("asks", "a", "some"))),
                               ("open", (("cries", "a", "some"), ("asks", "a", "some"))),
                               ("open", (("asks", "a", "some"), ("asks", "*", "none"))), (OPEN,), ((1, OPEN),)]
        for value in values:
            with self.subTest(value=value):
                got = raised(show_report, value)
                self.assertEqual(got[0], "BadReport")
                self.assertIs(got[1], value)

    def test_one_thing_changed(self):
        right = report("open", "asks/*/none", "cries/a/some")
        shown = {show_report(right)}
        for value in changed(right):
            got = raised(show_report, value)
            if isinstance(got, str):
                # Some other report, which is written otherwise.
                self.assertNotIn(got, shown)
                shown.add(got)
                self.assertEqual(raised(read_report, TWO, got), value if is_report(TWO, value) else ("BadText", got))
            else:
                self.assertEqual(repr(got), repr(("BadReport", value)))


class ReadReportTest(unittest.TestCase):
    def test_what_is_written_is_read_back(self):
        for number in range(300):
            value = Maker(number).report(TWO.clients)
            self.assertEqual(read_report(TWO, show_report(value)), value)
        self.assertEqual(read_report(text="open -", book=TWO), OPEN)

    def test_other_texts(self):
        text = "open asks/*/none,cries/a/some"
        self.assertEqual(read_report(TWO, text), report("open", "asks/*/none", "cries/a/some"))
        for value in ("", "open", "open ", "open  -", "open -,", "open --", " open -", "open - ", "Open -", "closed -",
                      "open\t-", "open -\n", "open\n-", "-", "open,-", "open ,", "open asks", "open asks/*", "open asks/*/",
                      "open asks/*/none,", "open ,asks/*/none", "open asks/*/none, cries/a/some",
                      "open asks/*/none,,cries/a/some", "open cries/a/some,asks/*/none", "open asks/*/some",
                      "open asks/c/none", "open asks/A/none", "open asks/a/none/", "open asks/a/none/none", "open /a/none",
                      "open asks//none", "open asks/a/none,asks/a/none", "open asks/a/none,asks/a/some", "open asks/a/no",
                      "open ask/a/none", "open asks/a /none", "open asks/a/none -", "open asks/a/none,-", "open -,asks/a/none",
                      text + "\n", text.upper(), " " + text, "open " + text, text + "," + text, "open asks*none",
                      "day open -", "1 open -", "openasks/a/none"):
            with self.subTest(value=value):
                self.assertEqual(raised(read_report, TWO, value), ("BadText", value))

    def test_other_values(self):
        for value in ODD_VALUES + [0, (), OPEN, ("open -",), ["open -"]]:
            with self.subTest(value=value):
                got = raised(read_report, TWO, value)
                self.assertEqual(got[0], "BadText")
                self.assertIs(got[1], value)

    def test_clients_of_the_book(self):
        self.assertEqual(read_report(Book(SHOP), "open asks/shop/some"), HEARD)
        self.assertEqual(raised(read_report, TWO, "open asks/shop/some"), ("BadText", "open asks/shop/some"))


if __name__ == "__main__":
    unittest.main()
