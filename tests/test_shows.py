"""Sections 2 and 7: which values show_can_be and shows_within take, and which they do not."""

import unittest

from unmissed.books import Book
from unmissed.fitting import can_be, shows_can_be, shows_within, within
from tests.chance import changed
from tests.naive import naive_days, naive_shows_can_be, naive_shows_within
from tests.samples import ODD_VALUES, SHOP, book_of, book_with, client
from tests.test_fitting import CRIED, HALF, HEARD, MET, MISSED, OPEN, QUIET, SHUT, plain, report


class ShowsCanBeTest(unittest.TestCase):
    def shows(self, book, history, value):
        told = shows_can_be(book, "price", history, value)
        self.assertIs(type(told), bool)
        self.assertEqual(told, bool(naive_shows_can_be(book, "price", naive_days(history), value)), value)
        return told

    def assert_changed(self, book, history, most_right):
        """Of what can_be tells with one thing changed at most so many values are right."""
        told = can_be(book, "price", history)
        self.assertTrue(self.shows(book, history, told))
        right = [value for value in changed(told) if self.shows(book, history, value)]
        self.assertLessEqual(len(right), most_right, right)

    def test_one_thing_changed_where_it_can_be(self):
        self.assert_changed(Book(SHOP), ((2, QUIET), (1, HEARD)), 40)
        self.assert_changed(Book(SHOP), ((2, OPEN),), 0)
        self.assert_changed(Book(SHOP), (), 0)
        one = book_with("if press", "  ask price", begins="one", heads=("user press 2",), sleeps="1")
        self.assert_changed(one, ((1, HEARD), (1, QUIET)), 9)
        self.assert_changed(one, ((2, OPEN),), 40)
        self.assert_changed(one, (), 0)

    def test_one_thing_changed_where_nobody_can(self):
        book = book_with("ask price x", "if x", "  stop", begins="until 1", lives="3", heads=("cell x 2",))
        self.assert_changed(book, ((1, OPEN), (1, report("open", "asks/*/none", "cries/shop/some")), (1, OPEN)), 99)
        self.assert_changed(Book(SHOP), ((4, QUIET), (1, HEARD)), 99)

    def test_one_thing_changed_where_the_one_copy_cannot(self):
        book = book_with("ask price x", "if x", "  stop", begins="one", heads=("cell x 2",))
        self.assert_changed(book, ((2, HEARD), (1, QUIET)), 99)
        self.assert_changed(book, ((1, HEARD), (1, report("open", "cries/shop/some"))), 99)

    def test_any_life_that_has_it(self):
        book = book_with("ask price", begins="until 2", sleeps="2", lives="4")
        history = ((1, OPEN), (1, HEARD), (1, OPEN))
        for begin, met, expected in (
            (0, (MET, MET, MET), True), (0, ((), MET, ()), True), (1, (MET, MET), True), (1, (MET, ()), True),
            (0, (MET, (), MET), False), (2, (MET,), False), (0, (MET, MET), False), (0, (MET, MET, MET, MET), False),
            (1, (MET, MET, ()), False), (0, (MISSED, MET, MET), False), (0, (MET, MISSED, MET), False), (0, (), False),
        ):
            with self.subTest(begin=begin, met=met):
                value = ("can", ((1, "asks", "shop", ("shop", begin, met)),), None)
                self.assertIs(self.shows(book, history, value), expected)

    def test_up_to_its_end(self):
        book = book_with("ask price x", "if x", "  stop", begins="until 0", lives="3", heads=("cell x 2",))
        history = ((1, HEARD), (5, OPEN))
        stays, goes = ((), (0,), True), ((), (1,), True)
        for met, expected in (((goes,), True), ((stays, goes), True), ((stays, stays, stays), True), ((stays,), False),
                              ((stays, stays), False), ((goes, goes), False)):
            value = ("can", ((0, "asks", "shop", ("shop", 0, met)),), None)
            self.assertIs(self.shows(book, history, value), expected)

    def test_who_is_gone_has_no_some(self):
        goes = ("ask price x", "if x", "  stop")
        stays, left = ((), (0,), True), ((), (1,), True)
        for begins in ("one", "until 0"):
            book = book_with(*goes, begins=begins, heads=("cell x 2",))
            for history in (((1, OPEN), (1, HEARD)), ((1, OPEN), (1, HEARD), (2, OPEN))):
                for met, expected in (((stays, left), True), ((left,), False)):
                    life = ("shop", 0, met)
                    value = ("can", ((1, "asks", "shop", life),), life if begins == "one" else None)
                    self.assertIs(self.shows(book, history, value), expected)

    def test_rows_ascend_one_for_each_some(self):
        book = book_with("ask price", "cry")
        heard = report("open", "asks/shop/some", "cries/shop/some")
        history = ((2, heard),)
        rows = can_be(book, "price", history)[1]
        self.assertTrue(self.shows(book, history, ("can", rows, None)))
        for wrong in (rows[::-1], rows[:3], rows + rows[3:], rows[:1] + rows, (rows[1], rows[0]) + rows[2:], (),
                      list(rows)):
            self.assertFalse(self.shows(book, history, ("can", wrong, None)))

    def test_the_ear_of_the_some(self):
        book = book_with("ask price", "else", "  cry", sleeps="1")
        history = ((1, ("half", (("cries", "shop", "some"),))),)
        for met, expected in ((MISSED, True), (MET, False), ((), False)):
            value = ("can", ((0, "cries", "shop", ("shop", 0, (met,))),), None)
            self.assertIs(self.shows(book, history, value), expected)

    def test_the_client_of_the_some(self):
        book = Book(book_of(*client("a", "  day", "    ask price"), *client("b", "  day", "    ask price")))
        history = ((1, report("open", "asks/a/some")),)
        for name, expected in (("a", True), ("b", False)):
            self.assertIs(self.shows(book, history, ("can", ((0, "asks", "a", (name, 0, (MET,))),), None)), expected)
            self.assertIs(self.shows(book, history, ("can", ((0, "asks", name, ("a", 0, (MET,))),), None)), expected)

    def test_the_very_life_of_the_one_copy(self):
        book = book_with("ask price", begins="one", sleeps="2")
        history = ((1, OPEN), (1, HEARD), (1, OPEN))
        one, other = ("shop", 0, ((), MET, ())), ("shop", 0, (MET, MET, ()))
        for life in (one, other):
            self.assertTrue(self.shows(book, history, ("can", ((1, "asks", "shop", life),), life)))
        self.assertFalse(self.shows(book, history, ("can", ((1, "asks", "shop", one),), other)))
        self.assertFalse(self.shows(book, history, ("can", ((1, "asks", "shop", one),), None)))
        for met in (((), (), MET), ((), MET), ((), MET, (), MET)):
            life = ("shop", 0, met)
            self.assertFalse(self.shows(book, history, ("can", ((1, "asks", "shop", life),), life)))
        silent = ("shop", 0, ((), (), MET))
        self.assertTrue(self.shows(book, ((3, OPEN),), ("can", (), silent)))
        self.assertFalse(self.shows(book, ((3, OPEN),), ("can", (), None)))
        self.assertFalse(self.shows(book, (), ("can", (), silent)))
        self.assertTrue(self.shows(book, (), ("can", (), None)))

    def test_equal_values_of_other_kinds(self):
        book = book_with("ask price", begins="one")
        right, wrong = ("shop", 0, (MET, MET)), ("shop", False, (MET, MET))
        history = ((1, OPEN), (1, HEARD))
        self.assertTrue(self.shows(book, history, ("can", ((1, "asks", "shop", right),), right)))
        self.assertFalse(self.shows(book, history, ("can", ((1, "asks", "shop", wrong),), right)))
        self.assertFalse(self.shows(book, history, ("can", ((1, "asks", "shop", right),), wrong)))
        self.assertFalse(self.shows(book, history, ("can", ((True, "asks", "shop", right),), right)))

    def test_a_life_of_the_client_with_the_line_one(self):
        text = book_of("client me", "  one", "  sleeps 0", "  day", "    rest", *client("shop", "  day", "    rest"))
        for name, expected in (("me", True), ("shop", False)):
            self.assertIs(self.shows(Book(text), ((1, OPEN),), ("can", (), (name, 0, (MET,)))), expected)

    def test_tables_in_other_sequences_and_with_more_rows(self):
        book = book_with("if x", "  ask price", "set x y", begins="until 0", heads=("cell x 2", "cell y 2"), sleeps="1")
        history = ((3, HEARD),)
        told = can_be(book, "price", history)
        self.assertEqual(told[:4], ("nobody", 0, "asks", "shop"))
        self.assertEqual(len(told[4]), 2)
        first, last = told[4]
        row = (plain(0, 0), False)
        for table, expected in (
            ((first, last[::-1]), True), ((first + first, last + last), True), ((first, last + (row,)), True),
            ((first + ((plain(1, 0), False),), last + (((1, 0), 1, (), 0), False)), False),
            ((first + ((plain(0, 1), False),), last + (((1, 1), 1, (), 0), False)), False),
            ((first, last + ((None, False),)), True), ((first, last + ((None, True),)), False),
            ((first + ((None, False),), last), False), ((first + ((None, False),), last + ((None, False),)), True),
            ((first, last + ((plain(1, 1), True),)), False), ((first, last, last), False), ((first,), False),
            ((first, ()), False), (((), last), False), ((first, last[1:]), False), ([first, last], False),
            ((first, list(last)), False), ((first, last + ((plain(1, 1), 0),)), False),
            ((first, last + ((plain(1, 1),),)), False), ((first, last + ((plain(2, 1), False),)), False),
            ((first, last + (plain(1, 1),)), False), ((first, last + ([plain(1, 1), False],)), False),
        ):
            with self.subTest(table=table):
                self.assertIs(self.shows(book, history, told[:4] + (table,)), expected)

    def test_closed_by_turns_that_fit(self):
        # A copy with x 1 asks; so on a quiet day nothing comes from it, but by sleep.
        book = book_with("if x", "  ask price", "set x y", begins="until 0", heads=("cell x 2", "cell y 2"), sleeps="1")
        history = ((1, report("open", "asks/*/none", "cries/shop/some")),)
        first, last = can_be(book, "price", history)[4]
        more = first + ((plain(1, 0), False),)
        self.assertIs(self.shows(book, history, ("nobody", 0, "cries", "shop", (more, last))), False)
        slept = last + ((((1, 0), 1, (), 0), False),)
        self.assertIs(self.shows(book, history, ("nobody", 0, "cries", "shop", (more, slept))), True)
        tired = first + ((((1, 0), 1, (), 0), False), (((1, 0), 1, (), 0), True))
        self.assertIs(self.shows(book, history, ("nobody", 0, "cries", "shop", (tired, last))), True)

    def test_a_row_with_true_keeps_it(self):
        book = book_with("rest", begins="until 0")
        history = ((1, HEARD),)
        first, last = ((plain(), False),), ((plain(), False),)
        self.assertTrue(self.shows(book, history, ("nobody", 0, "asks", "shop", (first, last))))
        self.assertFalse(self.shows(book, history, ("nobody", 0, "asks", "shop", (first + ((plain(), True),), last))))

    def test_the_words_that_are_told(self):
        text = book_of(*client("a", "  day", "    rest"), *client("b", "  day", "    rest"))
        history = ((1, OPEN), (2, report("open", "asks/a/some", "asks/b/some", "cries/a/some")))
        table = (((plain(), False),),) * 2 + (((plain(), False),),)
        self.assertTrue(self.shows(Book(text), history, ("nobody", 1, "asks", "a", table)))
        for value in (("nobody", 1, "asks", "b", table), ("nobody", 1, "cries", "a", table), ("one", 1, table),
                      ("nobody", 2, "asks", "a", table + table[:1]), ("nobody", 1, "asks", "a", table + table[:1]),
                      ("nobody", True, "asks", "a", table), ("can", (), None), ("nobody", 1, "asks", "a"),
                      ("nobody", 0, "asks", "a", table), (1, "asks", "a", table),
                      ("nobody", 1, "asks", "a", table, table)):
            self.assertFalse(self.shows(Book(text), history, value))

    def test_tables_of_the_one_copy(self):
        book = book_with("ask price x", "if x", "  stop", begins="one", heads=("cell x 2",), sleeps="1")
        history = ((1, OPEN), (2, report("open", "cries/shop/some")))
        told = can_be(book, "price", history)
        self.assertEqual(told[:2], ("one", 1))
        first, second, last = told[2]
        self.assertEqual(last, ())
        for value, expected in (
            (("one", 1, (first, second[::-1], ())), True), (("one", 1, (first * 2, second * 2, ())), True),
            (("one", 1, (first + (plain(1),), second, ())), False), (("one", 1, ((), second, ())), False),
            (("one", 1, (first + (plain(1),), second + (((1,), 1, (), 0),), ())), True),
            (("one", 1, (first + (((1,), 1, (), 0),), second, ())), True),
            (("one", 1, (first + (None,), second, ())), True), (("one", 1, (first, second, first)), False),
            (("one", 1, (first, second, (None,))), False), (("one", 1, (first, second[:-1], ())), False),
            (("one", 1, (first, second + (plain(2),), ())), False), (("one", 1, (first, second)), False),
            (("one", 1, (first, second, (), ())), False), (("one", 2, (first, second, ())), False),
            (("one", True, (first, second, ())), False), (("nobody", 1, (first, second, ())), False),
            (("one", 1, (first, second, []),), False), (("one", 1), False), (("one", 1, None), False),
            (("can", (), ("shop", 0, (((), (0,), True),) * 3)), False),
        ):
            with self.subTest(value=value):
                self.assertIs(self.shows(book, history, value), expected)

    def test_none_of_the_one_copy(self):
        book = book_with("stop", begins="one")
        history = ((1, OPEN), (1, report("open", "asks/*/none")), (1, HEARD))
        table = ((plain(),), (None,), (None,), ())
        self.assertEqual(can_be(book, "price", history), ("one", 2, table))
        self.assertTrue(self.shows(book, history, ("one", 2, table)))
        self.assertTrue(self.shows(book, history, ("one", 2, (table[0] + (None,),) + table[1:])))
        self.assertFalse(self.shows(book, history, ("one", 2, ((plain(),), (None,), (), ()))))

    def test_any_value(self):
        values = ODD_VALUES + [0, (), ("can",), ("can", ()), ("can", (), None, None), (None, (), None), ("nobody",),
                               ((),), ("one",), "can", ("Can", (), None), (("can",), (), None), (True, (), None)]
        values += [("can", value, None) for value in ODD_VALUES] + [("nobody", value) for value in ODD_VALUES]
        values += [("one", 0, value) for value in ODD_VALUES]
        for history in ((), ((1, OPEN),), ((1, HEARD),), ((4, QUIET), (1, HEARD))):
            for value in values:
                with self.subTest(history=history, value=value):
                    self.assertIs(shows_can_be(Book(SHOP), "price", history, value), False)


class ShowsWithinTest(unittest.TestCase):
    def shows(self, book, one, other, value):
        told = shows_within(book, "price", one, other, value)
        self.assertIs(type(told), bool)
        expected = naive_shows_within(book, "price", naive_days(one), naive_days(other), value)
        self.assertEqual(told, bool(expected), value)
        return told

    def test_one_thing_changed(self):
        book = book_with("ask price", "else", "  cry", begins="until 1", lives="2", sleeps="1")
        for one, other in ((((2, HALF),), ((1, OPEN), (1, CRIED))), (((2, QUIET),), ((2, OPEN),)),
                           (((2, HALF),), ((2, report("half", "cries/shop/none")),))):
            told = within(book, "price", one, other)
            self.assertTrue(self.shows(book, one, other, told))
            right = [value for value in changed(told) if self.shows(book, one, other, value)]
            self.assertEqual(right == [], told == ("within",))

    def test_within(self):
        book = book_with("ask price")
        self.assertTrue(self.shows(book, ((2, QUIET),), ((2, OPEN),), ("within",)))
        self.assertFalse(self.shows(book, ((2, OPEN),), ((2, QUIET),), ("within",)))

    def test_lives_of_whatever_length(self):
        book = book_with("ask price", begins="until 3", sleeps="1", lives="4")
        one, other = ((2, HALF),), ((1, HALF), (1, SHUT))
        for begin, met, expected in (
            (0, (MET, MET), True), (0, (MISSED, MET), True), (0, (MET, MET, MISSED), True),
            (0, (MET, MET, (), MET), True), (1, (MET,), True), (1, (MET, MISSED), True),
            (0, (MET, MISSED), False), (0, (MET, ()), False),
            (0, (MET,), False), (2, (MET,), False), (0, ((), MET), True), (0, ((), (), MET), False), (4, (MET,), False),
            (0, (MET,) * 4, True), (0, (MET,) * 5, False),
        ):
            with self.subTest(begin=begin, met=met):
                self.assertIs(self.shows(book, one, other, ("not", ("shop", begin, met))), expected)

    def test_a_life_that_does_not_fit_the_first_one(self):
        book = book_with("ask price")
        self.assertFalse(self.shows(book, ((1, QUIET),), ((1, SHUT),), ("not", ("shop", 0, (MET,)))))
        self.assertTrue(self.shows(book, ((1, OPEN),), ((1, SHUT),), ("not", ("shop", 0, (MET,)))))
        self.assertFalse(self.shows(book, ((1, OPEN),), ((1, SHUT),), ("not", ("shop", 0, (MISSED,)))))

    def test_any_value(self):
        book = Book(SHOP)
        values = ODD_VALUES + [0, (), "within", ("not",), ("within", ()), ("within", None), (("within",),), ["within"],
                               ("not", None), ("not", ()), ("not", ("shop", 0, ())), ("Within",), (True,), (None,)]
        values += [(value,) for value in ODD_VALUES] + [("not", value) for value in ODD_VALUES]
        for one, other in (((), ()), (((1, OPEN),), ((1, SHUT),)), (((1, QUIET),), ((1, OPEN),))):
            for value in values:
                with self.subTest(one=one, value=value):
                    self.assertIs(shows_within(book, "price", one, other, value), False)


if __name__ == "__main__":
    unittest.main()
