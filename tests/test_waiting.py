"""Section 10: how many silent days are enough."""

import unittest

from unmissed.books import Book
from unmissed.fitting import can_be
from unmissed.harming import harm
from unmissed.waiting import shows_wait, wait
from tests import naive_shut
from tests.chance import changed
from tests.naive import naive_days
from tests.orders import OrderMixin
from tests.samples import SHOP, WEEK, book_of, book_with, client, raised
from tests.test_asking import last_day, slow_rows
from tests.test_fitting import HALF, HEARD, MET, MISSED, OPEN, QUIET, SHUT, many_stands, plain, report

SILENT = report("open", "asks/*/none", "cries/*/none")
CRIES = ("ask price", "else", "  cry")


class WaitTest(unittest.TestCase):
    def told(self, book, history, heard=QUIET, door="price"):
        """What wait tells, looked at once more by the naive words."""
        told = wait(book, door, history, heard)
        reports = naive_days(history)
        expected = naive_shut.naive_wait(book, door, reports, heard)
        self.assertEqual(told[0], expected[0])
        if told[0] == "days":
            self.assertEqual((told[1], told[3]), expected[1:])
        self.assertTrue(naive_shut.naive_shows_wait(book, door, reports, heard, told), told)
        self.assertIs(shows_wait(book, door, history, heard, told), True)
        return told

    def test_the_example_of_section_10(self):
        told = wait(Book(SHOP), "price", (), QUIET)
        self.assertEqual([told[:2], told[2][:2], told[3]], [("days", 4), ("shop", 3), ()])

    def test_a_shop(self):
        book = Book(SHOP)
        for days in range(7):
            told = self.told(book, ((days, QUIET),) * (days > 0))
            self.assertEqual(told[:2], ("days", max(4 - days, 0)))
            self.assertEqual(told[3], ())
            self.assertEqual(told[2], () if days > 3 else ("shop", 3, told[2][2]))
        self.assertEqual(self.told(book, ((5, OPEN),))[:2], ("days", 1))

    def test_copies_that_keep_what_they_got(self):
        # A copy asks again on the fifth day behind the one on which it asked.
        book = Book(WEEK.replace("tell kept", "rest"))
        for days, expected in ((0, 4), (1, 5), (3, 5), (4, 5), (9, 5)):
            self.assertEqual(self.told(book, ((days, OPEN),) * (days > 0))[:2], ("days", expected))
        told = self.told(book, ((9, OPEN),))
        self.assertEqual(len(told[2][2]), 9 + 4 + 1 - told[2][1])

    def test_no_day_is_needed(self):
        book = book_with("ask price x", heads=("cell x 2",), begins="until 1")
        rows = tuple((2, "shop", plain(one), plain(other)) for one in (0, 1) for other in (0, 1))
        self.assertEqual(self.told(book, ((2, OPEN),)), ("days", 0, (), rows))
        rest = book_with("rest")
        self.assertEqual(self.told(rest, ()), ("days", 0, (), ((0, "shop", plain(), plain()),)))
        self.assertEqual(self.told(book_with("stop", begins="until 0"), ((1, OPEN),)), ("days", 0, (), ()))

    def test_rows_that_come_behind_the_least_number(self):
        # Who chose 1 asked on that day; the silent ones stay, and never ask any more.
        book = book_with("if same(n, 1)", "  if press", "    ask price", "    else", "      cry", "if less(n, 2)",
                         "  set n more(n)", begins="until 0", heads=("cell n 3", "user press 2"))
        told = self.told(book, ())
        self.assertEqual(told[:2], ("days", 2))
        self.assertEqual(told[3], ((1, "shop", ((2,), 0, (0,), 0), ((2,), 0, (0,), 0)),))
        self.assertEqual(told[2][:2], ("shop", 0))
        self.assertEqual(told[2][2][1], ((1,), (0,), False))
        self.assertEqual(len(told[2][2]), 2)

    def test_the_course_may_harm_on_any_later_day(self):
        # Asked on the first day behind them, it is seen two days later.
        book = book_with("if same(n, 2)", "  tell x", "else", "  if not(n)", "    ask price x", "  set n more(n)",
                         heads=("cell x 2", "cell n 3"), begins="until 1")
        told = self.told(book, ())
        self.assertEqual((told[:2], last_day(told[2])), (("days", 2), 3))
        self.assertEqual(told[2], ("shop", 1, (((), (1,), False), ((), (0,), False), ((), (0,), False))))

    def test_late(self):
        book = book_with(*CRIES)
        for history in ((), ((4, QUIET),), ((2, OPEN), (3, HEARD))):
            self.assertEqual(self.told(book, history), ("late", ("shop", 0, (MISSED,))))
        # It does not matter by which days others can begin: the day is one from settled on.
        both = Book(book.text + "\nclient b\n  begins until 5\n  lives always\n  sleeps 0\n  day\n    rest")
        self.assertEqual(self.told(both, ()), ("late", ("shop", 6, (MISSED,))))
        other = book_with("if same(k, 3)", *["  " + line for line in CRIES], calendars=("k 5",), lives="1")
        self.assertEqual(self.told(other, ((7, OPEN),)), ("late", ("shop", 3, (MISSED,))))
        turned = Book(other.text + "\nclient b\n  begins until 4\n  lives always\n  sleeps 0\n  day\n    rest")
        self.assertEqual(self.told(turned, ((7, OPEN),)), ("late", ("shop", 8, (MISSED,))))

    def test_late_needs_one_who_is_harmed_from_the_first_day_on(self):
        # Only who met the door on its first day asks again, and cries then.
        book = book_with("if x", "  ask price", "  else", "    cry", "else", "  ask price y", "  set x y",
                         heads=("cell x 2", "cell y 2"))
        told = self.told(book, ())
        self.assertEqual(told, ("days", 0, (), told[3]))
        self.assertEqual(self.told(book, ((1, OPEN),))[:2], ("days", 1))
        asleep = book_with("if x", "  ask price", "  else", "    cry", "else", "  ask price y", "  set x y",
                           heads=("cell x 2", "cell y 2"), sleeps="always")
        self.assertEqual(self.told(asleep, ())[:2], ("days", 0))
        self.assertEqual(self.told(asleep, ((1, OPEN),))[0], "ring")

    def test_a_ring_of_one_day(self):
        book = book_with(*CRIES, sleeps="always", begins="until 0")
        # On day 0 the moment is not settled: so the ring begins on day 1.
        self.assertEqual(self.told(book, ()), ("ring", "shop", 0, ((),), ((),), (MISSED,)))
        told = self.told(book, ((2, OPEN),))
        self.assertEqual((told[:3], len(told[3]), told[4:]), (("ring", "shop", 0), 2, (((),), (MISSED,))))
        chooses = book_with("if press", *["  " + line for line in CRIES], begins="one", heads=("user press 2",))
        told = self.told(chooses, ((1, OPEN),))
        self.assertEqual(told[4:], ((((0,), (0,), True),), (((1,), (0,), False),)))

    def test_rings_are_at_settled_moments(self):
        book = book_with(*CRIES, sleeps="always", begins="until 3")
        for days in range(6):
            told = self.told(book, ((days, OPEN),) * (days > 0))
            self.assertEqual(told[0], "ring")
            self.assertGreaterEqual(told[2] + len(told[3]), max(4, days))

    def test_rings_go_through_all_rounds(self):
        book = book_with(*CRIES, sleeps="always", begins="until 0", calendars=("k 2", "l 3"))
        told = self.told(book, ((2, OPEN),))
        self.assertEqual((told[0], len(told[4]) % 6), ("ring", 0))
        five = book_with("if same(k, 3)", *["  " + line for line in CRIES], begins="until 0", calendars=("k 5",))
        self.assertEqual(self.told(five, ())[:2], ("days", 4))
        self.assertEqual(self.told(five, ((4, OPEN),))[:2], ("days", 5))

    def test_rings_of_several_days(self):
        # Awake on one day of three at least; each time the user can choose not to ask, but not three times.
        book = book_with("if press", *["  " + line for line in CRIES], begins="until 0", sleeps="2",
                         heads=("user press 2 within 3",))
        self.assertEqual(self.told(book, ())[:2], ("days", 9))
        free = Book(book.text.replace(" within 3", ""))
        told = self.told(free, ())
        self.assertEqual(told[0], "ring")

    def test_rings_from_which_one_can_come_to_an_end(self):
        for chosen, kept in (("press", (0,)), ("not(press)", (1,))):
            book = book_with("if x", *["  " + line for line in CRIES], f"if {chosen}", "  set x 1", begins="until 0",
                             heads=("cell x 2", "user press 2"))
            told = self.told(book, ())
            self.assertEqual((told[0], told[4]), ("ring", ((kept, (0,), True),)))
            self.assertEqual((len(told[5]), told[5][0][0] == kept), (2, False))

    def test_late_goes_ahead_of_a_ring(self):
        rings = ["client b", "  begins until 0", "  lives always", "  sleeps always", "  day"]
        rings += ["    " + line for line in CRIES]
        for lines in ([*rings, *client("a", "  day", *["    " + line for line in CRIES])],
                      [*client("a", "  day", *["    " + line for line in CRIES]), *rings]):
            book = Book(book_of(*lines))
            told = self.told(book, ((2, OPEN),))
            self.assertEqual(told, ("late", ("a", 1, (MISSED,))))
            ring = ("ring", "b", 0, (MET, MET), ((),), (MISSED,))
            self.assertIs(shows_wait(book, "price", ((2, OPEN),), QUIET, ring), True)

    def test_late_and_ring_of_one_client(self):
        book = book_with(*CRIES, sleeps="always")
        self.assertEqual(self.told(book, ((1, OPEN),))[0], "late")
        self.assertIs(shows_wait(book, "price", ((1, OPEN),), QUIET, ("ring", "shop", 0, (MET,), ((),), (MISSED,))),
                      True)

    def test_lives_that_end(self):
        for lives, expected in (("1", 1), ("2", 2), ("5", 5), ("12", 12)):
            book = book_with(*CRIES, sleeps="always", begins="until 0", lives=lives)
            told = self.told(book, ())
            self.assertEqual((told[:2], told[3]), (("days", expected), ()))
            self.assertEqual(told[2], ("shop", 0, ((),) * (expected - 1) + (MISSED,)))

    def test_sleep(self):
        for sleeps in range(4):
            book = book_with(*CRIES, sleeps=str(sleeps), begins="until 0")
            self.assertEqual(self.told(book, ())[:2], ("days", sleeps + 1))
            self.assertEqual(self.told(book, ((3, OPEN),))[:2], ("days", sleeps + 1))

    def test_the_one_copy(self):
        book = book_with("if press", *["  " + line for line in CRIES], "  set x 1", "if and(not(press), not(x))",
                         "  stop", begins="one", heads=("cell x 2", "user press 2"))
        self.assertEqual(self.told(book, ((1, OPEN),))[0], "ring")
        self.assertEqual(self.told(book, ((1, QUIET),)), ("days", 0, (), ()))
        self.assertEqual(self.told(book, ((1, HEARD),))[0], "ring")
        # On a day on which it did not ask it would be gone: so ahead it has its some.
        self.assertEqual(self.told(book, ((1, OPEN), (1, HEARD)))[3][0][0], (1,))
        for begins, expected in (("one", True), ("until 0", False)):
            free = book_with("if press", *["  " + line for line in CRIES], begins=begins, heads=("user press 2",))
            told = ("ring", "shop", 0, (((0,), (0,), True),), (((0,), (0,), True),), (((1,), (0,), False),))
            self.assertIs(shows_wait(free, "price", ((1, HEARD),), QUIET, told), not expected)

    def test_days_that_cannot_be(self):
        # The one copy asks on each day: so silent days cannot be, and none is harmed behind one.
        book = book_with(*CRIES, begins="one")
        self.assertEqual(can_be(book, "price", ((1, QUIET),))[0], "one")
        for days in (0, 1, 5):
            told = self.told(book, ((days, HEARD),) * (days > 0))
            self.assertEqual(told, ("days", 1, ("shop", 0, (MET,) * days + (MISSED,)), ()))
        # Who was heard on day 0 asks again on day 1; the others do not matter for it.
        lines = ("if same(kept, 0)", "  ask price kept", "  else", "    cry")
        book = book_with(*lines, heads=("cell kept 2",), begins="until 0", doors=("price 1",))
        self.assertEqual(can_be(book, "price", ((1, HEARD), (1, QUIET)))[0], "nobody")
        self.assertEqual(self.told(book, ((1, HEARD),))[:2], ("days", 1))

    def test_other_ears_of_the_report(self):
        book = book_with("if press", "  cry", "else", *["  " + line for line in CRIES], begins="until 0",
                         heads=("user press 2",))
        self.assertEqual(self.told(book, (), QUIET)[0], "ring")
        self.assertEqual(self.told(book, (), SILENT)[:2], ("days", 1))
        for ears in (("asks/*/none", "cries/shop/none"), ("asks/*/none", "asks/shop/none", "cries/*/none")):
            self.assertEqual(self.told(book, (), report("open", *ears))[:2], ("days", 1))

    def test_states_of_the_report(self):
        book = book_with(*CRIES, begins="until 1", sleeps="1")
        for state in ("open", "shut", "half"):
            self.assertEqual(self.told(book, ((1, OPEN),), report(state, "asks/*/none"))[:2], ("days", 2))
        # On shut days nobody asks either; so nothing else can come of them.
        chooses = book_with("if press", *["  " + line for line in CRIES], begins="until 0", heads=("user press 2",))
        for state, is_met in (("open", True), ("shut", False)):
            told = self.told(chooses, (), report(state, "asks/*/none"))
            self.assertEqual(told[4], (((0,), (0,), is_met),))
            other = ("ring", "shop", 0, told[3], (((0,), (0,), not is_met),), told[5])
            self.assertIs(shows_wait(chooses, "price", (), report(state, "asks/*/none"), other), False)
            self.assertIs(shows_wait(chooses, "price", (), report("half", "asks/*/none"), other), True)

    def test_copies_begin_while_one_waits(self):
        for until in range(5):
            book = book_with(*CRIES, begins=f"until {until}", lives="1")
            for days in range(4):
                told = self.told(book, ((days, OPEN),) * (days > 0))
                self.assertEqual(told[:2], ("days", max(until + 1 - days, 0)))

    def test_each_greater_number_is_enough(self):
        book = Book(WEEK)
        for history in ((), ((2, OPEN),), ((4, HALF),)):
            many = self.told(book, history)[1]
            for days in range(1, many + 4):
                told = harm(book, "price", history + ((days, QUIET),))
                self.assertEqual(told[0], "harmless" if days >= many else "harms")

    def test_histories_cut_otherwise(self):
        book = Book(WEEK)
        self.assertEqual(self.told(book, ((3, OPEN),)), self.told(book, ((1, OPEN), (2, OPEN))))

    def test_equal_calls(self):
        for book in (Book(WEEK), book_with(*CRIES, sleeps="always", begins="until 2")):
            text = book.text
            for history in ((), ((2, HALF),)):
                self.assertEqual(wait(book, "price", history, QUIET), wait(Book(text), "price", history, QUIET))
            self.assertEqual(book.text, text)


class TooManyTest(unittest.TestCase):
    def test_silent_rows(self):
        book = slow_rows("until 0")
        told = wait(book, "price", ((1, OPEN),), QUIET)
        self.assertEqual((told[:3], len(told[3])), (("days", 0, ()), 1500))
        self.assertEqual(raised(wait, book, "price", (), QUIET), ("TooMany", 1500))

    def test_silent_rows_are_those_of_all_clients(self):
        more = "\n" + "\n".join(client("b", "  day", "    rest"))
        self.assertEqual(raised(wait, slow_rows("until 0", more=more), "price", ((1, OPEN),), QUIET),
                         ("TooMany", 1500))

    def test_it_is_raised_ahead_of_all_answers(self):
        late = "\n" + "\n".join(client("b", "  day", *["    " + line for line in CRIES]))
        book = slow_rows("until 0", more=late)
        self.assertEqual(harm(book, "price", ((1, OPEN),))[0], "harms")
        self.assertEqual(raised(wait, book, "price", ((1, OPEN),), QUIET), ("TooMany", 1500))
        self.assertIs(shows_wait(book, "price", ((1, OPEN),), QUIET, ("late", ("b", 1, (((), (0, 0), False),)))), True)

    def test_shut_rows(self):
        # Nobody presses on silent days; with the door shut both sides go apart, and the user sees nothing.
        lines = ("if press", "  set x more(x)", "if pull", "  ask price", "  else", "    set y more(y)")
        book = book_with(*lines, heads=("cell x 2", "cell y 25", "user press 2", "user pull 2"),
                         calendars=("five 5", "six 6"))
        self.assertEqual(len(naive_shut.silent_rows(book, "price", [], QUIET)), 60)
        told = wait(book, "price", (), QUIET)
        self.assertEqual((told[:3], len(told[3])), (("days", 0, ()), 1500))
        more = Book(book.text.replace("cell y 25", "cell y 26"))
        self.assertEqual(raised(wait, more, "price", (), QUIET), ("TooMany", 1500))
        self.assertIs(shows_wait(more, "price", (), QUIET, ("days", 0, (), harmless_rows(more))), True)

    def test_shut_rows_are_those_of_any_number_of_days(self):
        # With the door shut from day 0 on few rows come, behind silent days more.
        lines = ("if less(n, 29)", "  set n more(n)", "if same(n, 29)", "  ask price", "  else", "    set y more(y)")
        book = book_with(*lines, heads=("cell n 30", "cell y 2"), begins="until 0", calendars=("five 5", "six 6"))
        told = wait(book, "price", (), QUIET)
        silent = naive_shut.silent_rows(book, "price", [], QUIET)
        rows, harming = naive_shut.shut_rows(book, "price", silent)
        self.assertEqual((told[:3], len(told[3]), harming), (("days", 0, ()), len(rows), set()))

    def test_nothing_comes_by_a_turn_that_harms(self):
        lines = ("if press", "  set x more(x)", "if pull", "  ask price", "  else", "    cry", "    set y more(y)")
        book = book_with(*lines, heads=("cell x 2", "cell y 30", "user press 2", "user pull 2"),
                         calendars=("five 5", "six 6"))
        self.assertEqual(wait(book, "price", (), QUIET)[0], "late")

    def test_stands_go_ahead(self):
        book = many_stands("always")
        cannot = ((40, OPEN), (1, report("open", "asks/*/none", "asks/shop/some")))
        for history in (((40, OPEN),), cannot):
            self.assertEqual(raised(wait, book, "price", history, QUIET), ("TooMany", 300))
            self.assertEqual(raised(shows_wait, book, "price", history, QUIET, None), ("TooMany", 300))

    def test_mornings_behind_the_history_may_have_more_stands(self):
        told = wait(many_stands("always"), "price", (), QUIET)
        self.assertEqual((told[:3], len(told[3])), (("days", 0, ()), 301))


def harmless_rows(book):
    """All pairs of cells of x, y in all moments, with like cells x: more than come, but closed."""
    return tuple((moment, "shop", ((x, 0), 0, (0, 0), 0), ((x, y), 0, (0, 0), 0)) for moment in range(30)
                 for x in range(2) for y in range(26))


class ShowsWaitTest(OrderMixin, unittest.TestCase):
    def shows(self, book, history, value, heard=QUIET, door="price"):
        told = shows_wait(book, door, history, heard, value)
        self.assertIs(type(told), bool)
        reports = naive_days(history)
        self.assertEqual(told, bool(naive_shut.naive_shows_wait(book, door, reports, heard, value)), value)
        return told

    def test_one_thing_changed(self):
        week = Book(WEEK.replace("begins until 3", "begins until 1").replace("cell left 5", "cell left 3"))
        for book, history in (
            (week, ((2, OPEN),)), (book_with(*CRIES), ()), (book_with("ask price x", heads=("cell x 2",)), ()),
            (book_with(*CRIES, sleeps="always", begins="until 1"), ((1, OPEN),)),
            (book_with(*CRIES, sleeps="always", begins="one", calendars=("k 2",)), ((1, HALF),)),
        ):
            told = wait(book, "price", history, QUIET)
            self.assertTrue(self.shows(book, history, told))
            for value in changed(told):
                self.shows(book, history, value)

    def test_the_least_number(self):
        book = book_with(*CRIES, sleeps="3", begins="until 2")
        _, many, course, table = wait(book, "price", (), QUIET)
        self.assertEqual((many, table), (6, ()))
        for days in range(9):
            for met in range(1, 9):
                for begin in range(3):
                    value = ("days", days, ("shop", begin, ((),) * (met - 1) + (MISSED,)), ())
                    told = self.shows(book, (), value)
                    self.assertIs(told, (days, begin, met) == (6, 2, 4))
        self.assertTrue(self.shows(book, (), ("days", 6, course, ())))
        for days in (True, 6.0, "6", None, -1, 10 ** 17, 5, 7):
            self.assertIs(shows_wait(book, "price", (), QUIET, ("days", days, course, ())), False)

    def test_numbers_that_are_far_too_great(self):
        far = 10 ** 17
        always = book_with(*CRIES)
        for book in (always, Book(SHOP), book_with("rest")):
            for begin in (0, far - 1, far, far + 1):
                for table in ((), ((0, "shop", plain(), plain()),)):
                    value = ("days", far, ("shop", begin, (MISSED,)), table)
                    self.assertIs(shows_wait(book, "price", (), QUIET, value), False)
        self.assertIs(shows_wait(always, "price", (), QUIET, ("late", ("shop", far, (MISSED,)))), True)
        rings = book_with(*CRIES, sleeps="always")
        self.assertIs(shows_wait(rings, "price", (), QUIET, ("ring", "shop", far, (), ((),), (MISSED,))), True)

    def test_no_days(self):
        book = book_with("ask price x", heads=("cell x 2",), begins="until 0")
        told = wait(book, "price", (), QUIET)
        self.assertEqual(told[:3], ("days", 0, ()))
        for course in (None, [], ("shop", 0, (MISSED,)), ("shop", 0, ()), ((),), False, 0, ""):
            self.assertFalse(self.shows(book, (), ("days", 0, course, told[3])))
        for days in (1, 2):
            self.assertFalse(self.shows(book, (), ("days", days, (), told[3])))

    def test_closed_tables(self):
        book = book_with("if press", "  ask price", "  else", "    if n", "      set n fewer(n)", "    else",
                         "      cry", "if same(n, 0)", "  set n 0", begins="until 0", heads=("cell n 2", "user press 2"))
        told = wait(book, "price", (), QUIET)
        self.assertEqual(told[0], "ring")
        quiet = book_with("if press", "  ask price", "  else", "    set n 1", "if same(m, 1)", "  tell n",
                          begins="until 1", heads=("cell n 2", "cell m 2", "user press 2"), lives="2")
        told = wait(quiet, "price", (), QUIET)
        self.assertEqual(told[:3], ("days", 0, ()))
        rows = told[3]
        for table in (rows, rows[::-1], rows + rows, rows[1:] + rows[:1]):
            self.assertTrue(self.shows(quiet, (), ("days", 0, (), table)))
        for at in range(len(rows)):
            self.assertFalse(self.shows(quiet, (), ("days", 0, (), rows[:at] + rows[at + 1:])))
        one, other = ((0, 0), 0, (0,), 1), ((1, 0), 0, (0,), 1)
        harmed = ((0, 1), 0, (0,), 1), ((1, 1), 0, (0,), 1)
        self.assertTrue(self.shows(quiet, (), ("days", 0, (), rows + ((2, "shop", other, one),))))
        self.assertTrue(self.shows(quiet, (), ("days", 0, (), rows + ((2, "shop", None, one),))))
        self.assertFalse(self.shows(quiet, (), ("days", 0, (), rows + ((2, "shop", *harmed),))))
        self.assertFalse(self.shows(quiet, (), ("days", 0, (), rows + ((2, "shop", None, None),))))
        self.assertFalse(self.shows(quiet, (), ("days", 0, (), list(rows))))

    def test_tables_have_the_rows_of_those_that_are_there(self):
        # Behind the silent days copies are there, and others begin no more.
        book = book_with("if same(n, 1)", "  if press", *["    " + line for line in CRIES], "if less(n, 2)",
                         "  set n more(n)", begins="until 0", heads=("cell n 3", "user press 2"), sleeps="1")
        told = wait(book, "price", ((1, OPEN),), QUIET)
        awake, tired = ((2,), 0, (0,), 0), ((2,), 1, (0,), 0)
        self.assertEqual((told[1], told[3]), (3, ((1, "shop", awake, awake), (1, "shop", tired, tired))))
        self.assertTrue(self.shows(book, ((1, OPEN),), told[:3] + (told[3][::-1],)))
        for table in (told[3][:1], told[3][1:], ()):
            self.assertFalse(self.shows(book, ((1, OPEN),), told[:3] + (table,)))
        gone = Book(book.text.replace("    if less(n, 2)\n      set n more(n)",
                                      "    if same(n, 1)\n      stop\n    set n 1"))
        told = wait(gone, "price", ((1, OPEN),), QUIET)
        self.assertEqual((told[1], told[3]), (3, ()))

    def test_courses(self):
        book = book_with(*CRIES, sleeps="1", begins="until 2")
        history = ((1, OPEN), (1, HALF))
        self.assertEqual(wait(book, "price", history, QUIET)[1], 2)
        for begin in range(4):
            for met in ((MET, MISSED, (), MISSED), (MET, MISSED, MET, MISSED), (MET, MISSED, MISSED, MISSED),
                        (MISSED, (), (), MISSED), (MISSED, MET, (), MISSED), ((), MET, (), MISSED), ((), (), (), MISSED),
                        (MET, (), MISSED), (MET, MISSED, (), MET), (MET, MISSED, (), ()), (MET, MISSED, (), MISSED, ()),
                        ((), MISSED), ((), (), MISSED), (MISSED,), (MET, MET, (), MISSED), (MISSED, (), MISSED)):
                self.shows(book, history, ("days", 2, ("shop", begin, met), ()))
        for begin, met, expected in (
            (0, (MET, MISSED, (), MISSED), True), (0, (MISSED, MISSED, (), MISSED), False),
            (1, (MET, (), MISSED), True), (2, ((), MISSED), True), (2, (MISSED,), False), (3, (MISSED,), False),
            (0, (MET, MISSED, (), MISSED, ()), False), (0, (MET, MISSED, (), ()), False),
        ):
            self.assertIs(self.shows(book, history, ("days", 2, ("shop", begin, met), ())), expected)

    def test_late_courses(self):
        text = book_of(*client("a", "  user u 2", "  day", "    if u", "      ask price", "      else", "        cry"),
                       "client b", "  begins until 2", "  lives always", "  sleeps 0", "  day",
                       *["    " + line for line in CRIES])
        book = Book(text)
        miss, rest, met = ((1,), (0,), False), ((0,), (0,), False), ((1,), (0,), True)
        self.assertEqual(book.settled, 3)
        for name in "abc":
            for begin in (0, 2, 3, 4, 9, True, -1, None):
                for turns in ((miss,), (rest, miss), (rest, rest, miss), (miss, miss), (rest,), (met,), (rest, met),
                              (met, miss), (), ((),), ((), miss), [miss], None, miss):
                    told = self.shows(book, ((5, OPEN),), ("late", (name, begin, turns)))
                    if begin in (3, 4, 9) and name == "a":
                        self.assertIs(told, turns in ((miss,), (rest, miss), (rest, rest, miss)))
                    else:
                        self.assertFalse(told)

    def test_late_courses_are_of_those_that_begin_always(self):
        for begins, expected in (("always", True), ("until 2", False), ("one", False)):
            book = book_with(*CRIES, begins=begins)
            for begin in range(book.settled, 5):
                self.assertIs(self.shows(book, (), ("late", ("shop", begin, (MISSED,)))), expected)

    def test_the_history_is_not_looked_at_for_late_courses(self):
        book = book_with(*CRIES, sleeps="1")
        for history in ((), ((3, OPEN),), ((1, OPEN), (2, HALF))):
            for begin in range(6):
                self.assertTrue(self.shows(book, history, ("late", ("shop", begin, ((), MISSED)))))
                self.assertTrue(self.shows(book, history, ("late", ("shop", begin, (MISSED,)))))
                self.assertFalse(self.shows(book, history, ("late", ("shop", begin, (MET, MISSED)))))
                self.assertFalse(self.shows(book, history, ("late", ("shop", begin, ((), (), MISSED)))))

    def test_rings(self):
        book = book_with(*CRIES, sleeps="always", begins="until 2", calendars=("k 2",))
        history = ((1, OPEN), (1, HALF))
        for begin, ahead, ring, behind, expected in (
            (0, (MET, MISSED, ()), ((), ()), (MISSED,), True), (0, (MET, MISSED, (), ()), ((), ()), (MISSED,), True),
            (0, (MET, MISSED), ((), ()), (MISSED,), False), (0, (MET, MISSED, ()), ((),), (MISSED,), False),
            (0, (MET, MISSED, ()), ((),) * 4, ((), (), MISSED), True), (0, (MET, MISSED, ()), ((),) * 3, (MISSED,), False),
            (0, (MET, MISSED, ()), (), (MISSED,), False), (0, (MET, MISSED, ()), ((), ()), (), False),
            (0, (MET, MISSED, ()), ((), ()), ((),), False), (0, (MET, MISSED, ()), ((), ()), (MISSED, MISSED), False),
            (0, (MET, MISSED, ()), ((), ()), (MET,), False), (0, (MET, MISSED, MET), ((), ()), (MISSED,), False),
            (0, (MET, MISSED, ()), ((), MISSED), (MISSED,), False), (0, (MISSED, MISSED, ()), ((), ()), (MISSED,), False),
            (1, (MET, ()), ((), ()), (MISSED,), True), (1, (MET,), ((), ()), (MISSED,), False),
            (2, ((),), ((), ()), (MISSED,), True), (2, (), ((), ()), (MISSED,), False),
            (3, (), ((), ()), (MISSED,), False), (True, (MET, ()), ((), ()), (MISSED,), False),
            (0, [MET, MISSED, ()], ((), ()), (MISSED,), False), (0, (MET, MISSED, ()), [(), ()], (MISSED,), False),
            (0, (MET, MISSED, ()), ((), ()), [MISSED], False), (0, None, None, None, False),
        ):
            with self.subTest(begin=begin, ahead=ahead, ring=ring, behind=behind):
                self.assertIs(self.shows(book, history, ("ring", "shop", begin, ahead, ring, behind)), expected)
                self.assertFalse(self.shows(book, history, ("ring", "price", begin, ahead, ring, behind)))

    def test_a_ring_comes_back_to_its_stand(self):
        book = book_with("if u", "  set x more(x)", "else", "  if w", *["    " + line for line in CRIES],
                         begins="until 0", heads=("cell x 3", "user u 2", "user w 2"))
        idle, more, miss = ((0, 0), (0,), True), ((1, 0), (0,), True), ((0, 1), (0,), False)
        self.assertEqual(wait(book, "price", (), QUIET)[0], "ring")
        for ahead, ring, expected in (
            ((idle,), (idle,), True), ((idle,), (more,), False), ((idle,), (more, more), False),
            ((more, more), (more,), True), ((more,), (more,), False), ((more, more), (more, idle), True),
            ((more,), (idle, idle), True), ((idle,), (more, idle), False), ((), (idle,), False),
        ):
            self.assertIs(self.shows(book, (), ("ring", "shop", 0, ahead, ring, (miss,))), expected)

    def test_who_is_gone_goes_through_no_ring(self):
        book = book_with("if u", "  stop", *CRIES, begins="until 0", heads=("user u 2",), sleeps="always")
        leave, miss = ((1,), (0,), True), ((0,), (0,), False)
        self.assertTrue(self.shows(book, (), ("ring", "shop", 0, ((),), ((),), (miss,))))
        for ahead, ring, behind in (((leave,), ((),), (miss,)), (((),), (leave,), (miss,)),
                                    ((leave,), (leave,), (miss,)), (((),), ((),), (((1,), (0,), False), miss))):
            self.assertFalse(self.shows(book, (), ("ring", "shop", 0, ahead, ring, behind)))

    def test_a_ring_of_a_copy_that_begins_behind_the_history(self):
        book = book_with(*CRIES, sleeps="always", begins="always")
        for begin in range(6):
            expected = begin >= 2
            self.assertIs(self.shows(book, ((2, OPEN),), ("ring", "shop", begin, (), ((),), (MISSED,))), expected)

    def test_late_also_where_there_is_a_ring_and_ring_also_where_late_is_told(self):
        book = book_with(*CRIES, sleeps="always")
        self.assertEqual(wait(book, "price", (), QUIET)[0], "late")
        self.assertTrue(self.shows(book, (), ("late", ("shop", 0, (MISSED,)))))
        self.assertTrue(self.shows(book, (), ("ring", "shop", 0, (), ((),), (MISSED,))))
        for days in range(3):
            self.assertFalse(self.shows(book, (), ("days", days, ("shop", 0, (MISSED,)), ())))

    def test_any_value(self):
        for book in (Book(SHOP), book_with(*CRIES), book_with("rest", begins="until 0")):
            shows = lambda value: shows_wait(book, "price", (), QUIET, value)
            self.assert_none_shown(shows, ("days", "late", "ring"))
            told = wait(book, "price", (), QUIET)
            for value in (told[:-1], told + ((),), list(told), told[1:], ("Days",) + told[1:], (told,), told + told):
                self.assertIs(shows(value), False)


REPORTS = [None, True, 0, "", (), [], {}, ("open",), ("open", ()), OPEN, SHUT, HALF, HEARD, ("open", []),
           ["open", (("asks", "*", "none"),)], ("Open", (("asks", "*", "none"),)), report("open", "asks/shop/none"),
           report("open", "cries/*/none"), report("open", "asks/*/none", "cries/shop/some"),
           report("open", "asks/*/none", "asks/shop/some"), ("open", (("asks", "*", "none"),) * 2), (QUIET,), (1, QUIET),
           ("open", (("cries", "*", "none"), ("asks", "*", "none"))), ((1, QUIET),), Book(SHOP), [[[]]],
           report("open", "asks/*/none", "asks/nobody/none"), ("open", (("asks", "*", "some"),)), True, "open asks/*/none"]


class ErrorsTest(OrderMixin, unittest.TestCase):
    def test_order(self):
        book = Book(SHOP)
        for more in ((), (None,), (("days", 0, (), ()),)):
            function = wait if not more else shows_wait
            self.assert_order(lambda *arguments: function(book, *arguments, *more), ["price", ((2, OPEN),), QUIET],
                              ["BadDoor", "BadHistory", "BadReport"])

    def test_bad_reports(self):
        for book in (Book(SHOP), many_stands("always")):
            for history in ((), ((40, OPEN),), ((4, QUIET), (1, HEARD))):
                for value in REPORTS:
                    with self.subTest(history=history, value=value):
                        for function, more in ((wait, ()), (shows_wait, (None,))):
                            got = raised(function, book, "price", history, value, *more)
                            self.assertEqual(got[0], "BadReport")
                            self.assertIs(got[1], value)

    def test_cannot_be(self):
        book = Book(SHOP)
        history = ((4, QUIET), (1, OPEN), (1, HEARD), (2, OPEN))
        self.assertEqual(raised(wait, book, "price", history, QUIET), ("CannotBe", 5))
        self.assertEqual(raised(shows_wait, book, "price", history, QUIET, None), ("CannotBe", 5))
        self.assertEqual(raised(wait, slow_rows("until 0"), "price", ((1, report("open", "cries/shop/some")),), QUIET),
                         ("CannotBe", 0))

    def test_by_name(self):
        book = Book(SHOP)
        history = ((4, QUIET),)
        told = wait(report=QUIET, history=history, door="price", book=book)
        self.assertEqual(told, ("days", 0, (), ()))
        self.assertIs(shows_wait(value=told, report=QUIET, history=history, door="price", book=book), True)


if __name__ == "__main__":
    unittest.main()
