"""Section 6: reports, histories, and the lives that fit them."""

import unittest

from unmissed.books import Book
from unmissed.reports import days_of, fits, folded, is_history, is_report
from tests.samples import FULL, ODD_VALUES, SHOP, book_of, book_with, client, raised

OPEN, SHUT, HALF = ("open", ()), ("shut", ()), ("half", ())
QUIET = ("open", (("asks", "*", "none"),))

RIGHT = [OPEN, SHUT, HALF, QUIET] + [("half", ((ear, who, word),)) for ear in ("asks", "cries")
                                     for who in ("a", "b", "pricewar") for word in ("some", "none")]
RIGHT += [
    ("shut", (("cries", "*", "none"),)),
    ("open", (("asks", "*", "none"), ("asks", "a", "none"), ("asks", "b", "some"), ("cries", "a", "some"))),
    ("open", (("asks", "*", "none"), ("asks", "a", "some"))),
    ("shut", (("asks", "a", "some"), ("cries", "*", "none"), ("cries", "a", "none"), ("cries", "pricewar", "some"))),
]
WRONG = [
    ("OPEN", ()), ("", ()), (None, ()), (("open",), ()), (["open"], ()), ("open ", ()), ("*", ()), ("none", ()),
    ("open", []), ("open", None), ("open", "asks"), ("open",), ("open", (), ()), ["open", ()], (), ((), "open"),
    ("open", (("asks", "*", "some"),)), ("open", (("cries", "*", "some"),)), ("open", (("asks", "*", ""),)),
    ("open", (("asks", "c", "none"),)), ("open", (("asks", "price", "none"),)), ("open", (("asks", "", "none"),)),
    ("open", (("asks", None, "none"),)), ("open", (("asks", ["a"], "none"),)), ("open", (("asks", ("a",), "none"),)),
    ("open", (("ask", "a", "none"),)), ("open", (("cry", "a", "none"),)), ("open", ((None, "a", "none"),)),
    ("open", (("asks", "a", "all"),)), ("open", (("asks", "a", None),)), ("open", (("asks", "a", True),)),
    ("open", (("asks", "a"),)), ("open", (("asks", "a", "none", "none"),)), ("open", (["asks", "a", "none"],)),
    ("open", ("asks", "a", "none")), ("open", ((),)), ("open", (None,)), ("open", (("asks", "a", ["none"]),)),
    ("open", (("asks", "b", "none"), ("asks", "a", "none"))), ("open", (("asks", "a", "none"), ("asks", "*", "none"))),
    ("open", (("cries", "a", "none"), ("asks", "a", "none"))), ("open", (("asks", "a", "none"), ("asks", "a", "none"))),
    ("open", (("asks", "a", "none"), ("asks", "a", "some"))), ("open", (("asks", "a", "some"), ("asks", "a", "some"))),
    ("open", (("asks", "*", "none"), ("asks", "*", "none"))),
]


class ReportTest(unittest.TestCase):
    def test_right_ones(self):
        for report in RIGHT:
            with self.subTest(report):
                self.assertIs(is_report(Book(FULL), report), True)

    def test_wrong_ones(self):
        for report in WRONG + ODD_VALUES + [0, 1, "open"]:
            with self.subTest(report):
                self.assertIs(is_report(Book(FULL), report), False)

    def test_clients_are_those_of_the_book(self):
        report = ("open", (("asks", "shop", "some"),))
        self.assertIs(is_report(value=report, book=Book(SHOP)), True)
        self.assertIs(is_report(Book(FULL), report), False)

    def test_each_ear_of_each_client(self):
        ears = tuple(sorted((ear, who, "none") for ear in ("asks", "cries") for who in ("*", "a", "b", "pricewar")))
        self.assertIs(is_report(Book(FULL), ("open", ears)), True)
        for at in range(1, 8):
            swapped = ears[:at - 1] + (ears[at], ears[at - 1]) + ears[at + 1:]
            self.assertIs(is_report(Book(FULL), ("open", swapped)), False)


class HistoryTest(unittest.TestCase):
    def test_right_ones(self):
        book = Book(FULL)
        self.assertIs(is_history(book, ()), True)
        for many in (1, 2, 59, 60):
            self.assertIs(is_history(value=((many, QUIET),), book=book), True)
        self.assertIs(is_history(book, tuple((1, report) for report in RIGHT)), True)
        self.assertIs(is_history(book, ((1, OPEN), (1, OPEN))), True)
        self.assertEqual(len(days_of(book, tuple((2, report) for report in RIGHT))), 2 * len(RIGHT))

    def test_wrong_ones(self):
        book = Book(FULL)
        wrong = [((0, OPEN),), ((61, OPEN),), ((-1, OPEN),), ((True, OPEN),), ((None, OPEN),), (("1", OPEN),),
                 ((10 ** 17, OPEN),), ((1,),), ((1, OPEN, OPEN),), ([1, OPEN],), [(1, OPEN)], (1, OPEN), (OPEN,), OPEN,
                 ((OPEN, 1),), ((1, OPEN), None), ((1, OPEN), (0, OPEN)), ((1, None),), ((),), ((1, OPEN), ()), "", 0,
                 (((1,), OPEN),), ((1, [OPEN]),)]
        wrong += [((1, report),) for report in WRONG] + [((1, OPEN), (2, report)) for report in WRONG]
        for value in wrong + ODD_VALUES:
            with self.subTest(value):
                self.assertIs(is_history(book, value), False)
                got = raised(days_of, book, value)
                self.assertEqual(got[0], "BadHistory")
                self.assertIs(got[1], value)

    def test_days_of(self):
        book = Book(SHOP)
        self.assertEqual(days_of(book, ()), ())
        self.assertEqual(days_of(book, ((2, OPEN), (1, QUIET), (3, SHUT))), (OPEN, OPEN, QUIET, SHUT, SHUT, SHUT))
        self.assertEqual(days_of(history=((60, QUIET),), book=book), (QUIET,) * 60)

    def test_folded(self):
        book = Book(SHOP)
        self.assertEqual(folded(book, ()), ())
        for reports, expected in (
            ((OPEN,), ((1, OPEN),)),
            ((OPEN, OPEN, QUIET, QUIET, QUIET, OPEN), ((2, OPEN), (3, QUIET), (1, OPEN))),
            ((SHUT, HALF, SHUT), ((1, SHUT), (1, HALF), (1, SHUT))),
            ((HALF,) * 60, ((60, HALF),)),
            ((HALF,) * 59 + (OPEN,), ((59, HALF), (1, OPEN))),
        ):
            told = folded(reports=reports, book=book)
            self.assertEqual(told, expected)
            self.assertEqual([type(told)] + [type(row) for row in told], [tuple] * (1 + len(told)))
            self.assertEqual(days_of(book, told), reports)

    def test_rows_cut_otherwise_have_the_same_days(self):
        book = Book(SHOP)
        cut = ((1, OPEN), (2, OPEN), (1, QUIET), (3, QUIET))
        self.assertEqual(days_of(book, cut), days_of(book, ((3, OPEN), (4, QUIET))))
        self.assertEqual(folded(book, days_of(book, cut)), ((3, OPEN), (4, QUIET)))

    def test_folded_of_what_is_no_report(self):
        book = Book(FULL)
        for value in WRONG + ODD_VALUES + [0]:
            with self.subTest(value):
                for reports in ((value,), (OPEN, value), (OPEN, value, None), (value, [], OPEN)):
                    got = raised(folded, book, reports)
                    self.assertEqual(got[0], "BadReport")
                    self.assertIs(got[1], value)
        for value in ODD_VALUES + ["open", 0, [OPEN]]:
            got = raised(folded, book, value)
            self.assertEqual(got[0], "BadReport")
            self.assertIs(got[1], value)


MET, MISSED = ((), (0,), True), ((), (0,), False)


class FitsTest(unittest.TestCase):
    def told(self, book, history, begin, *met, door="price"):
        return fits(book, door, history, ("shop", begin, met))

    def test_states(self):
        book = book_with("rest", sleeps="always")
        for state, met, missed in ((OPEN, True, False), (SHUT, False, True), (HALF, True, True)):
            self.assertIs(self.told(book, ((1, state),), 0, MET), met)
            self.assertIs(self.told(book, ((1, state),), 0, MISSED), missed)
            self.assertIs(self.told(book, ((1, state),), 0, ()), True)

    def test_each_day_of_the_history(self):
        book = book_with("rest")
        history = ((2, OPEN), (1, SHUT), (1, OPEN))
        self.assertIs(self.told(book, history, 0, MET, MET, MISSED, MET), True)
        for wrong in ((MISSED, MET, MISSED, MET), (MET, MISSED, MISSED, MET), (MET, MET, MET, MET),
                      (MET, MET, MISSED, MISSED)):
            self.assertIs(self.told(book, history, 0, *wrong), False)
        self.assertIs(self.told(book, history, 1, MET, MISSED, MET), True)
        self.assertIs(self.told(book, history, 2, MISSED, MET), True)
        self.assertIs(self.told(book, history, 2, MET, MET), False)

    def test_a_turn_for_each_day(self):
        book = book_with("rest")
        for many in range(1, 6):
            self.assertIs(self.told(book, ((3, OPEN),), 0, *[MET] * many), many >= 3)
            self.assertIs(self.told(book, ((3, OPEN),), 2, *[MET] * many), True)
        self.assertIs(self.told(book, ((3, OPEN),), 1, MET), False)

    def test_up_to_the_day_on_which_it_is_gone(self):
        book = book_with("rest", lives="2")
        self.assertIs(self.told(book, ((5, OPEN),), 0, MET, MET), True)
        self.assertIs(self.told(book, ((5, OPEN),), 0, MET), False)
        book = book_with("ask price", "else", "  stop")
        self.assertIs(self.told(book, ((1, OPEN), (4, HALF)), 0, MET, MISSED), True)
        self.assertIs(self.told(book, ((1, OPEN), (4, HALF)), 0, MET, MET), False)

    def test_behind_the_history_nothing_is_looked_at(self):
        book = book_with("cry", "ask price")
        silent = ("open", (("asks", "*", "none"), ("cries", "*", "none")))
        self.assertIs(self.told(book, ((2, silent),), 2, MISSED, MET), True)
        self.assertIs(self.told(book, ((2, silent),), 10 ** 17, MISSED), True)
        self.assertIs(self.told(book, ((2, silent),), 1, MET), False)
        self.assertIs(self.told(book, (), 0, MISSED), True)
        sleepy = book_with("cry", "ask price", sleeps="2")
        self.assertIs(self.told(sleepy, ((2, silent),), 0, (), (), MISSED, MET), True)
        self.assertIs(self.told(sleepy, ((2, silent),), 0, (), MET), False)

    def test_ears(self):
        asks, cries = book_with("ask price", sleeps="1"), book_with("cry", sleeps="1")
        both = book_with("ask price", "else", "  cry", sleeps="1")
        for who in ("*", "shop"):
            no_asks, no_cries = ("half", (("asks", who, "none"),)), ("half", (("cries", who, "none"),))
            for book, turn, asked, cried in ((asks, MET, True, False), (asks, MISSED, True, False),
                                             (cries, MET, False, True), (both, MET, True, False),
                                             (both, MISSED, True, True), (both, (), False, False)):
                self.assertIs(self.told(book, ((1, no_asks),), 0, turn), not asked)
                self.assertIs(self.told(book, ((1, no_cries),), 0, turn), not cried)
                self.assertIs(self.told(book, ((1, HALF), (1, no_asks)), 0, MET, turn), not asked)

    def test_ears_of_another_client(self):
        book = Book(book_of(*client("a", "  day", "    ask price"), *client("b", "  day", "    ask price")))
        life = ("a", 0, (MET,))
        for who, expected in (("a", False), ("b", True), ("*", False)):
            self.assertIs(fits(book, "price", ((1, ("open", (("asks", who, "none"),))),), life), expected)

    def test_some_rules_out_nothing(self):
        for begins in ("always", "one"):
            book = book_with("rest", begins=begins)
            heard = ("open", (("asks", "shop", "some"), ("cries", "shop", "some")))
            self.assertIs(self.told(book, ((1, heard),), 0, MET), True)

    def test_the_door_that_is_asked_about(self):
        book = book_with("ask stock", doors=("price 1", "stock 1"))
        history = ((1, QUIET),)
        life = ("shop", 0, (((), (0, 0), True),))
        self.assertIs(fits(book, "price", history, life), True)
        self.assertIs(fits(life=life, history=history, door="stock", book=book), False)

    def test_errors_in_their_order(self):
        book, life = Book(SHOP), ("shop", 0, (MET,))
        right = ["price", ((1, OPEN),), life]
        self.assertIs(fits(book, *right), True)
        for at, name in enumerate(("BadDoor", "BadHistory", "BadLife")):
            for value in ODD_VALUES + [0, "open", (1,), life[:2] + ((),), ("shop", 4, (MET,)), ((0, OPEN),)]:
                with self.subTest(at=at, value=value):
                    got = raised(fits, book, *right[:at], *[value] * (3 - at))
                    self.assertEqual(got[0], name)
                    self.assertIs(got[1], value)
                    self.assertEqual(raised(fits, book, *right[:at], value, *right[at + 1:])[0], name)

    def test_a_life_that_is_none_is_no_answer(self):
        book = book_with("rest", lives="1")
        for life in (("shop", 0, (MET, MET)), ("shop", 7, (MET, MET)), ("shop", 7, ((),))):
            self.assertEqual(raised(fits, book, "price", ((1, OPEN),), life), ("BadLife", life))


if __name__ == "__main__":
    unittest.main()
