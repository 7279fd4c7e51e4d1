"""Section 8: whether a door can still be asked."""

import unittest

from unmissed.asking import shows_still_asked, still_asked
from unmissed.books import Book
from tests.naive import naive_days, naive_first, naive_happens, naive_never, naive_shows_still_asked, naive_turns
from tests.samples import ODD_VALUES, SHOP, book_of, book_with, client, raised
from tests.test_fitting import HALF, HEARD, MET, MISSED, OPEN, QUIET, SHUT, many_stands, plain, report

# A copy is heard on the day on which its cell holds 2, and on no other.
AT_TWO = ("if same(x, 2)", "  ask price", "set x more(x)")


def last_day(life):
    return life[1] + len(life[2]) - 1


class StillAskedTest(unittest.TestCase):
    def told(self, book, history, door="price"):
        """What still_asked tells, looked at once more by the naive words."""
        told = still_asked(book, door, history)
        reports = naive_days(history)
        day, table = naive_never(book, door, reports)
        if day is None:
            self.assertEqual(told, ("never", table))
        else:
            self.assertEqual((told[0], last_day(told[1])), ("asks", day))
        self.assertTrue(naive_shows_still_asked(book, door, reports, told), told)
        self.assertIs(shows_still_asked(book, door, history, told), True)
        return told

    def test_a_shop(self):
        book = Book(SHOP)
        for days in range(4):
            history = ((days, QUIET),) * (days > 0)
            told = self.told(book, history)
            self.assertEqual((told[0], told[1][:2], last_day(told[1])), ("asks", ("shop", days), days))
        for days in (4, 5, 60):
            self.assertEqual(self.told(book, ((days, QUIET),)), ("never", ()))
        self.assertEqual(self.told(book, ((60, OPEN),))[0], "asks")

    def test_rows_of_those_that_never_ask(self):
        book = book_with("set x more(x)", begins="until 1", heads=("cell x 3",))
        rows = ((0, "shop", plain(0)), (1, "shop", plain(0)), (1, "shop", plain(1)), (2, "shop", plain(1)),
                (2, "shop", plain(2)))
        self.assertEqual(self.told(book, ()), ("never", rows))
        self.assertEqual(self.told(book, ((1, OPEN),)), ("never", rows[1:]))
        self.assertEqual(self.told(book, ((2, OPEN),)), ("never", rows[3:]))
        self.assertEqual(self.told(book, ((9, OPEN),)), ("never", rows[4:]))

    def test_rows_are_those_from_the_morning_behind_the_history_on(self):
        book = book_with("set x more(x)", heads=("cell x 3",), lives="3")
        rows = tuple((0, "shop", ((n,), 0, (), n)) for n in range(3))
        self.assertEqual(self.told(book, ()), ("never", rows))
        self.assertEqual(self.told(book, ((5, OPEN),)), ("never", rows))
        ends = book_with("set x more(x)", heads=("cell x 3",), lives="2", begins="until 4")
        self.assertEqual(self.told(ends, ((4, OPEN),)), ("never", (
            (4, "shop", ((0,), 0, (), 0)), (4, "shop", ((1,), 0, (), 1)), (5, "shop", ((1,), 0, (), 1)))))
        self.assertEqual(self.told(ends, ((5, OPEN),)), ("never", ((5, "shop", ((1,), 0, (), 1)),)))
        self.assertEqual(self.told(ends, ((6, OPEN),)), ("never", ()))

    def test_who_is_there_comes_in_the_last_morning_alone(self):
        first = ["client a", "  begins until 0", "  lives always", "  sleeps 0", "  cell x 9", "  day", "    set x more(x)"]
        book = Book(book_of(*first, "client b", "  begins until 4", *client("b", "  day", "    stop")[2:]))
        rows = tuple((moment, "a", plain(moment)) for moment in range(2, 6)) + tuple((5, "a", plain(x)) for x in (6, 7, 8))
        begins = tuple((day, "b", plain()) for day in range(2, 5))
        self.assertEqual(self.told(book, ((2, OPEN),)), ("never", tuple(sorted(rows + begins))))

    def test_moments(self):
        book = book_with("if same(k, 1)", "  set x 1", calendars=("k 3",), heads=("cell x 2",), begins="until 1")
        rows = {(0, 0), (1, 0), (2, 1), (3, 1), (4, 1)}
        expected = tuple(sorted((moment, "shop", plain(x)) for moment, x in rows))
        self.assertEqual(self.told(book, ()), ("never", expected))
        always = book_with("if same(k, 1)", "  set x 1", calendars=("k 3",), heads=("cell x 2",))
        expected = tuple((moment, "shop", plain(x)) for moment in range(3) for x in (0, 1))
        self.assertEqual(self.told(always, ()), ("never", expected))
        self.assertEqual(self.told(always, ((7, SHUT),)), ("never", expected))

    def test_the_first_day(self):
        book = book_with(*AT_TWO, begins="until 0", heads=("cell x 4",))
        for days, expected in ((0, "asks"), (1, "asks"), (2, "asks"), (3, "never")):
            told = self.told(book, ((days, OPEN),) * (days > 0))
            self.assertEqual(told[0], expected)
            if expected == "asks":
                self.assertEqual(told[1], ("shop", 0, (MET,) * 3))
        calendar = book_with("if same(k, 5)", "  ask price", calendars=("k 7",))
        for days in range(9):
            self.assertEqual(last_day(self.told(calendar, ((days, OPEN),) * (days > 0))[1]), 5 if days < 6 else 12)

    def test_sleep_puts_it_off(self):
        book = book_with(*AT_TWO, begins="until 0", heads=("cell x 4",), sleeps="2")
        for days in range(9):
            told = self.told(book, ((days, OPEN),) * (days > 0))
            self.assertEqual((told[0], last_day(told[1])), ("asks", max(days, 2)))
        self.assertEqual(self.told(book, ((9, OPEN),))[0], "never")
        for days in (9, 60):
            always = book_with(*AT_TWO, begins="until 0", heads=("cell x 4",), sleeps="always")
            self.assertEqual(self.told(always, ((days, QUIET),))[0], "asks")

    def test_asks_of_the_history_do_not_count(self):
        book = book_with("if not(x)", "  ask price", "  set x 1", begins="until 0", heads=("cell x 2",))
        self.assertEqual(self.told(book, ((1, HEARD),)), ("never", ((1, "shop", plain(1)),)))

    def test_from_now_on_the_door_is_open(self):
        # Only who did not meet the door asks again.
        book = book_with("if less(x, 2)", "  set x 2", "  ask price", "  else", "    set x 0", heads=("cell x 3",),
                         begins="until 0")
        self.assertEqual(self.told(book, ((1, SHUT), (1, OPEN)))[0], "never")
        self.assertEqual(self.told(book, ((2, SHUT),))[0], "asks")
        told = self.told(book, ((1, report("shut", "asks/shop/some")),))
        self.assertEqual((told[0], last_day(told[1]), told[1][2][-1]), ("asks", 1, MET))
        self.assertFalse(shows_still_asked(book, "price", ((1, SHUT),), ("asks", ("shop", 0, (MISSED, MISSED)))))
        self.assertTrue(shows_still_asked(book, "price", ((1, SHUT),), ("asks", ("shop", 0, (MISSED, MET)))))

    def test_who_slept_asks_on_the_first_day(self):
        book = book_with("ask price", begins="until 0", sleeps="always")
        self.assertEqual(self.told(book, ((2, QUIET),)), ("asks", ("shop", 0, ((), (), MET))))

    def test_the_one_copy(self):
        book = book_with(*AT_TWO, begins="one", heads=("cell x 4",), sleeps="2")
        self.assertEqual(self.told(book, ())[1], ("shop", 0, (MET,) * 3))
        self.assertEqual(self.told(book, ((3, OPEN), (1, HEARD)))[0], "never")
        told = self.told(book, ((3, OPEN), (1, QUIET)))
        self.assertEqual((told[0], told[1][:2], last_day(told[1])), ("asks", ("shop", 0), 4))
        ends = book_with("ask price", "stop", begins="one")
        self.assertEqual(self.told(ends, ((1, OPEN),)), ("never", ()))

    def test_the_life_has_all_somes_of_the_one_copy(self):
        book = book_with("if same(x, 3)", "  ask price", "if press", "  cry", "  set x more(x)", begins="one",
                         heads=("cell x 5", "user press 2"))
        cried, silent = report("open", "cries/shop/some"), report("open", "cries/*/none")
        told = self.told(book, ((1, OPEN), (1, cried), (1, silent), (1, cried)))
        self.assertEqual([turn[0][0] for turn in told[1][2]], [1, 1, 0, 1, 0])

    def test_several_clients(self):
        quick = client("quick", "  day", "    if same(k, 3)", "      ask price")
        slow = client("slow", "  day", "    if same(k, 4)", "      ask price")
        book = Book("\n".join(["calendar k 6", book_of(*slow, *quick)]))
        self.assertEqual(self.told(book, ())[1][0], "quick")
        self.assertEqual(self.told(book, ((4, OPEN),))[1][0], "slow")
        rest = Book(book_of(*client("b", "  day", "    rest"), *client("a", "  day", "    rest")))
        self.assertEqual(self.told(rest, ()), ("never", ((0, "a", plain()), (0, "b", plain()))))

    def test_another_door(self):
        book = book_with("ask stock", doors=("price 1", "stock 1"))
        self.assertEqual(self.told(book, (), door="price")[0], "never")
        self.assertEqual(self.told(book, (), door="stock")[0], "asks")

    def test_no_day_is_missed_ahead_of_later_begins(self):
        heads = ["  lives 1", "  sleeps 0", "  day", "    rest"]
        lines = ["door price 1", "client a", "  begins until 0", *heads, "client b", "  begins until 12", *heads]
        rows = self.told(Book("\n".join(lines)), ())[1]
        self.assertEqual(rows, ((0, "a", plain()),) + tuple((n, "b", plain()) for n in range(13)))

    def test_rows_cut_otherwise(self):
        book = book_with(*AT_TWO, heads=("cell x 4",))
        cut = ((2, QUIET), (3, QUIET))
        self.assertEqual(still_asked(book, "price", ((5, QUIET),)), still_asked(book, "price", cut))

    def test_equal_calls(self):
        for book in (Book(SHOP), book_with("set x more(x)", heads=("cell x 9",), sleeps="3")):
            self.assertEqual(still_asked(book, "price", ((2, HALF),)), still_asked(book, "price", ((2, HALF),)))


def slow_rows(begins, doors=("price 1", "stock 2"), heads=("cell x 26", "cell y 2"), more=""):
    """A book whose client has 50 stands from some day on, and 30 rounds."""
    book = book_with("if x", "  if y", "    set x more(x)", "else", "  set x 1", "ask stock y", begins=begins,
                     heads=heads, doors=doors, calendars=("five 5", "six 6"))
    return Book(book.text + more)


def counter(until):
    """The lines of a client that asks on day until and not ahead."""
    lines = ["client late", "  begins until 0", "  lives always", "  sleeps 0", "  cell n 30", "  cell m 2", "  day"]
    lines += [f"    if and(same(n, {until % 30}), same(m, {until // 30}))", "      ask price",
              "    if same(n, 29)", "      set m 1", "      set n 0", "    else", "      set n more(n)"]
    return "\n" + "\n".join(lines)


def rows_by_day(book, days):
    """How many rows have come as each of these days begins, without a history, nobody asking."""
    found, here, counts = set(), set(), []
    for day in range(days):
        for name in book.clients:
            if book[name].begins is None or day <= book[name].begins:
                here.add((name, naive_first(book, name)))
        found |= {(book.moment(day), *row) for row in here}
        counts.append(len(found))
        here = {(name, naive_happens(book, "price", name, day, stand, turn)[0]) for name, stand in here
                for turn in naive_turns(book, name, stand, "open")}
    return counts


class TooManyTest(unittest.TestCase):
    def test_as_many_as_there_may_be(self):
        # On day 0 there is one stand more; all others are there in each of the 30 moments behind it.
        book = slow_rows("until 0")
        told = still_asked(book, "price", ((1, OPEN),))
        self.assertEqual((told[0], len(told[1])), ("never", 1500))
        self.assertIs(shows_still_asked(book, "price", ((1, OPEN),), told), True)
        self.assertEqual(raised(still_asked, book, "price", ()), ("TooMany", 1500))

    def test_it_is_raised_ahead_of_looks_at_the_day(self):
        for late in (40, 41):
            counts = rows_by_day(slow_rows("always", more=counter(late)), 60)
        day = [count > 1500 for count in counts].index(True)
        self.assertLess(day, 60)
        for late in range(day - 2, day + 3):
            book = slow_rows("always", more=counter(late))
            got = raised(still_asked, book, "price", ())
            if late < day:
                self.assertEqual((got[0], got[1][0], last_day(got[1])), ("asks", "late", late))
            else:
                self.assertEqual(got, ("TooMany", 1500))

    def test_shows_does_not_raise_it(self):
        book = slow_rows("always", more=counter(59))
        life = ("late", 0, (((), (0, 0), True),) * 60)
        self.assertEqual(raised(still_asked, book, "price", ()), ("TooMany", 1500))
        self.assertIs(shows_still_asked(book, "price", (), ("asks", life)), True)
        self.assertIs(shows_still_asked(book, "price", (), ("never", ())), False)

    def test_shows_takes_tables_of_more_rows(self):
        book = slow_rows("always")
        rows = tuple((moment, "shop", plain(x, y)) for moment in range(30) for x in range(26) for y in range(2))
        self.assertIs(shows_still_asked(book, "price", (), ("never", rows)), True)
        self.assertIs(shows_still_asked(book, "price", (), ("never", rows[:-1])), False)
        self.assertIs(shows_still_asked(book, "price", (), ("never", rows + rows)), True)

    def test_stands_go_ahead(self):
        for book in (many_stands("always"), many_stands("always", lines=("ask price",))):
            for days in (0, 40):
                got = raised(still_asked, book, "price", ((days, OPEN),) * (days > 0))
                if "ask price" in book.text or days == 0:
                    self.assertNotEqual(got, ("TooMany", 300))
                else:
                    self.assertEqual(got, ("TooMany", 300))
                    self.assertEqual(raised(shows_still_asked, book, "price", ((40, OPEN),), None), ("TooMany", 300))
        cannot = ((40, OPEN), (1, report("open", "asks/*/none", "asks/shop/some")))
        self.assertEqual(raised(still_asked, many_stands("always"), "price", cannot), ("TooMany", 300))

    def test_mornings_behind_the_history_may_have_more_stands(self):
        book = many_stands("always")
        told = still_asked(book, "price", ())
        self.assertEqual((told[0], len(told[1])), ("never", 301))


class ErrorsTest(unittest.TestCase):
    WRONG = ODD_VALUES + [0, (1,), "open", ((0, OPEN),), ((1, "open"),), [(1, OPEN)]]

    def test_order(self):
        book = Book(SHOP)
        for function in (still_asked, lambda *arguments: shows_still_asked(*arguments, None)):
            for value in self.WRONG:
                with self.subTest(value=value):
                    for arguments, name in (((value, value), "BadDoor"), ((value, ()), "BadDoor"),
                                            (("price", value), "BadHistory")):
                        got = raised(function, book, *arguments)
                        self.assertEqual(got[0], name)
                        self.assertIs(got[1], value)

    def test_cannot_be(self):
        book = Book(SHOP)
        history = ((4, QUIET), (1, OPEN), (1, HEARD), (2, OPEN))
        self.assertEqual(raised(still_asked, book, "price", history), ("CannotBe", 5))
        self.assertEqual(raised(shows_still_asked, book, "price", history, ("never", ())), ("CannotBe", 5))
        one = book_with("ask price", begins="one")
        self.assertEqual(raised(still_asked, one, "price", ((3, OPEN), (1, QUIET))), ("CannotBe", 3))

    def test_by_name(self):
        book = Book(SHOP)
        self.assertEqual(still_asked(history=((4, QUIET),), door="price", book=book), ("never", ()))
        self.assertIs(shows_still_asked(value=("never", ()), history=((4, QUIET),), door="price", book=book), True)


class ShowsTest(unittest.TestCase):
    def shows(self, book, history, value, door="price"):
        told = shows_still_asked(book, door, history, value)
        self.assertIs(type(told), bool)
        self.assertEqual(told, bool(naive_shows_still_asked(book, door, naive_days(history), value)), value)
        return told

    def test_tables_in_any_sequence(self):
        book = book_with("set x more(x)", begins="until 1", heads=("cell x 3",), sleeps="1")
        rows = still_asked(book, "price", ())[1]
        for table in (rows, rows[::-1], rows + rows, rows + rows[2:3], rows[1:] + rows[:1]):
            self.assertTrue(self.shows(book, (), ("never", table)))
        for at in range(len(rows)):
            self.assertFalse(self.shows(book, (), ("never", rows[:at] + rows[at + 1:])))

    def test_tables_with_more_rows(self):
        book = book_with("if same(x, 2)", "  ask price", begins="until 1", heads=("cell x 4",))
        rows = still_asked(book, "price", ())[1]
        self.assertEqual(rows, ((0, "shop", plain(0)), (1, "shop", plain(0)), (2, "shop", plain(0))))
        # Nothing leads to these; but what comes from them has to be there, too.
        self.assertTrue(self.shows(book, (), ("never", rows + ((2, "shop", plain(3)),))))
        self.assertTrue(self.shows(book, (), ("never", rows + ((1, "shop", plain(1)), (2, "shop", plain(1))))))
        self.assertFalse(self.shows(book, (), ("never", rows + ((1, "shop", plain(1)),))))
        self.assertFalse(self.shows(book, (), ("never", rows + ((2, "shop", plain(2)),))))

    def test_rows_of_the_right_form(self):
        book = book_with("rest", heads=("cell x 2",), calendars=("k 2",))
        rows = ((0, "shop", plain(0)), (1, "shop", plain(0)))
        self.assertTrue(self.shows(book, (), ("never", rows)))
        for row in ((2, "shop", plain(0)), (-1, "shop", plain(0)), (True, "shop", plain(0)), (0, "price", plain(0)),
                    (0, "shop", plain(2)), (0, "shop", None), (0, "shop", plain(True)), [0, "shop", plain(0)],
                    (0, "shop"), (0, "shop", plain(0), 0), (0, ["shop"], plain(0)), ("shop", 0, plain(0)), (), None):
            self.assertFalse(self.shows(book, (), ("never", rows + (row,))))
        self.assertFalse(self.shows(book, (), ("never", list(rows))))
        self.assertFalse(self.shows(book, (), ("never", rows[0])))

    def test_first_rows(self):
        book = book_with("stop", begins="until 2")
        rows = tuple((day, "shop", plain()) for day in range(3))
        for days in range(4):
            history = ((days, OPEN),) * (days > 0)
            self.assertTrue(self.shows(book, history, ("never", rows)))
            self.assertTrue(self.shows(book, history, ("never", rows[days:])))
            if days < 3:
                self.assertFalse(self.shows(book, history, ("never", rows[days + 1:])))
                self.assertFalse(self.shows(book, history, ("never", rows[:2])))

    def test_first_rows_of_the_one_copy(self):
        book = book_with("rest", begins="one")
        rows = ((0, "shop", plain()), (1, "shop", plain()))
        self.assertTrue(self.shows(book, (), ("never", rows)))
        self.assertFalse(self.shows(book, (), ("never", rows[1:])))
        self.assertTrue(self.shows(book, ((1, OPEN),), ("never", rows[1:])))
        gone = book_with("stop", begins="one")
        self.assertTrue(self.shows(gone, ((1, OPEN),), ("never", ())))

    def test_never_where_one_asks(self):
        book = book_with("if x", "  ask price", "else", "  set x 1", heads=("cell x 2",))
        rows = ((0, "shop", plain(0)), (0, "shop", plain(1)))
        for table in (rows, rows[:1], rows[1:], ()):
            self.assertFalse(self.shows(book, (), ("never", table)))

    def test_lives_of_whatever_length(self):
        book = book_with("ask price", sleeps="always", begins="until 2")
        for history in ((), ((1, QUIET),), ((2, OPEN),)):
            for begin in range(3):
                for met in ((MET,), ((), MET), ((), (), MET), (MET, (), MET), ((),) * 9 + (MET,), (MISSED, MET),
                            (MISSED,), (MET, ()), (MET, MET, MISSED)):
                    self.shows(book, history, ("asks", ("shop", begin, met)))
        self.assertTrue(self.shows(book, (), ("asks", ("shop", 2, ((),) * 9 + (MET,)))))
        self.assertFalse(self.shows(book, (), ("asks", ("shop", 2, (MET, ())))))
        self.assertFalse(self.shows(book, (), ("asks", ("shop", 3, (MET,)))))
        self.assertFalse(self.shows(book, (), ("asks", ("shop", 0, (MISSED,)))))
        self.assertFalse(self.shows(book, (), ("asks", ("shop", 0, (MISSED, MET)))))

    def test_lives_that_can_have_been(self):
        book = book_with("ask price", sleeps="always", begins="until 2")
        history = ((1, OPEN), (1, ("shut", ())), (1, QUIET))
        self.assertTrue(self.shows(book, history, ("asks", ("shop", 0, (MET, MISSED, (), MET)))))
        self.assertFalse(self.shows(book, history, ("asks", ("shop", 0, (MET, MISSED, MET, MET)))))
        self.assertFalse(self.shows(book, history, ("asks", ("shop", 0, (MET, MET, (), MET)))))
        self.assertFalse(self.shows(book, history, ("asks", ("shop", 0, (MET, MISSED, ())))))
        self.assertFalse(self.shows(book, history, ("asks", ("shop", 0, (MET,)))))

    def test_lives_of_the_one_copy(self):
        book = book_with("ask price", sleeps="always", begins="one")
        history = ((1, OPEN), (1, HEARD))
        self.assertTrue(self.shows(book, history, ("asks", ("shop", 0, ((), MET, MET)))))
        self.assertTrue(self.shows(book, history, ("asks", ("shop", 0, (MET, MET, (), MET)))))
        self.assertFalse(self.shows(book, history, ("asks", ("shop", 0, (MET, (), MET)))))
        many = book_with("ask price", sleeps="always", begins="until 0")
        self.assertTrue(self.shows(many, history, ("asks", ("shop", 0, (MET, (), MET)))))

    def test_far_days(self):
        book = book_with("ask price")
        far = 10 ** 17
        self.assertIs(shows_still_asked(book, "price", ((3, QUIET),), ("asks", ("shop", far, (MET, MET)))), True)
        self.assertIs(shows_still_asked(book, "price", ((3, QUIET),), ("asks", ("shop", far, (MET, MISSED)))), False)

    def test_any_value(self):
        book = Book(SHOP)
        life = still_asked(book, "price", ())[1]
        values = [("never",), ("asks",), ("asks", life, life), ("never", (), ()), ("asks", None), ("asks", ()), (),
                  ("always", ()), ("never", life), ("asks", (life,)), life, ["asks", life], (("asks",), life), "never",
                  ("asks", list(life)), 0, ("", ()), (None, ())]
        for value in values + ODD_VALUES + [("never", value) for value in ODD_VALUES] + \
                [("asks", value) for value in ODD_VALUES] + [(value, ()) for value in ODD_VALUES]:
            with self.subTest(value=value):
                self.assertIs(shows_still_asked(book, "price", (), value), False)


if __name__ == "__main__":
    unittest.main()
