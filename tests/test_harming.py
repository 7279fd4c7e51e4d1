"""Section 9: whether a user is harmed by a shut door, or by a plan."""

import unittest

from unmissed.asking import still_asked
from unmissed.books import Book
from unmissed.editing import shut_out
from unmissed.harming import harm, harmed, hurts, shows_harm, shows_hurts
from unmissed.reports import fits
from tests import naive_shut
from tests.chance import changed
from tests.naive import naive_days
from tests.orders import OrderMixin
from tests.samples import SHOP, book_of, book_with, client, raised
from tests.test_asking import last_day, slow_rows
from tests.test_fitting import HALF, HEARD, MET, MISSED, OPEN, QUIET, SHUT, many_stands, plain, report

# A copy asks on its first day; what it got is told on the third one.
LATE_TELL = ("if same(n, 2)", "  tell x", "else", "  if not(n)", "    ask price x", "  set n more(n)")
LATE_HEADS = ("cell x 2", "cell n 3")
# With the door shut a copy stops on its first day; otherwise it is seen on the second one.
STOPS_SHUT = ("if x", "  tell 1", "else", "  ask price", "  else", "    stop", "  set x 1")
# With the door open a copy stops on its first day; otherwise it is seen on the second one.
STOPS_OPEN = ("if x", "  tell 1", "else", "  ask price", "  else", "    set x 1", "  if not(x)", "    stop")
ONE, ZERO = ((), (1,), False), ((), (0,), False)


class Told(unittest.TestCase):
    def told(self, book, history, door="price"):
        """What harm tells, looked at once more by the naive words."""
        told = harm(book, door, history)
        reports = naive_days(history)
        day, table, _ = naive_shut.naive_harm(book, door, reports)
        if day is None:
            self.assertEqual(told, ("harmless", naive_shut.as_table(table)))
        else:
            self.assertEqual((told[0], last_day(told[1])), ("harms", day))
        self.assertTrue(naive_shut.naive_shows_harm(book, door, reports, told), told)
        self.assertIs(shows_harm(book, door, history, told), True)
        names = [name for name in book.clients if naive_shut.naive_harm(book, door, reports, [name])[0] is not None]
        self.assertEqual(harmed(book, door, history), tuple(sorted(names)))
        return told


class HarmTest(Told):
    def test_the_example_of_section_9(self):
        book = Book(SHOP)
        self.assertEqual([harm(book, "price", ((4, QUIET),)), harmed(book, "price", ((3, QUIET),))],
                         [("harmless", ()), ("shop",)])
        self.assertEqual(harm(book, "price", ((3, QUIET),))[1][:2], ("shop", 3))

    def test_a_shop(self):
        book = Book(SHOP)
        for days in range(5):
            told = self.told(book, ((days, QUIET),) * (days > 0))
            self.assertEqual(told, ("harms", ("shop", days, told[1][2])) if days < 4 else ("harmless", ()))
            if days < 4:
                self.assertIn(told[1][2], ((ONE,), (ZERO,)))

    def test_who_asks_and_sees_nothing_is_not_harmed(self):
        book = book_with("ask price x", "else", "  set x 1", "tell 3", heads=("cell x 2",), begins="until 1")
        told = self.told(book, ())
        self.assertEqual(told, ("harmless", (
            (0, "shop", plain(0), plain(0)), (1, "shop", plain(0), plain(0)), (1, "shop", plain(0), plain(1)),
            (1, "shop", plain(1), plain(1)), (2, "shop", plain(0), plain(1)), (2, "shop", plain(1), plain(1)))))
        self.assertEqual(still_asked(book, "price", ())[0], "asks")
        self.assertEqual(self.told(book, ((9, SHUT),)), ("harmless", (
            (2, "shop", plain(0), plain(1)), (2, "shop", plain(1), plain(1)))))

    def test_harm_is_seen_days_later(self):
        book = book_with(*LATE_TELL, heads=LATE_HEADS, begins="until 0")
        self.assertEqual(self.told(book, ()), ("harms", ("shop", 0, (ONE, ZERO, ZERO))))
        # Who asked while the door was open holds what it got.
        for days in (1, 2, 3):
            self.assertEqual(self.told(book, ((days, OPEN),))[0], "harmless")
        asleep = book_with(*LATE_TELL, heads=LATE_HEADS, begins="until 0", sleeps="1")
        told = self.told(asleep, ((1, QUIET),))
        self.assertEqual(told[1], ("shop", 0, ((), ONE, ZERO, ZERO)))

    def test_a_side_is_gone(self):
        book = book_with(*STOPS_SHUT, heads=("cell x 2",), begins="until 0")
        told = self.told(book, ())
        self.assertEqual(told, ("harms", ("shop", 0, (MISSED, MISSED))))
        # This course is no life: the copy stops on its first day.
        self.assertEqual(raised(fits, book, "price", (), told[1]), ("BadLife", told[1]))
        self.assertEqual(self.told(book, ((1, OPEN),)), ("harmless", ((1, "shop", plain(1), plain(1)),)))
        book = book_with(*STOPS_OPEN, heads=("cell x 2",), begins="until 0")
        self.assertEqual(self.told(book, ()), ("harms", ("shop", 0, (MISSED, MISSED))))
        self.assertEqual(self.told(book, ((1, OPEN),)), ("harmless", ()))
        self.assertEqual(self.told(book, ((1, SHUT),)), ("harmless", ((1, "shop", plain(1), plain(1)),)))

    def test_who_is_gone_stands_behind_all_stands(self):
        book = book_with("ask price x", "else", "  stop", begins="until 1", sleeps="1", heads=("cell x 2",))
        rows = self.told(book, ())[1]
        tired = ((0,), 1, (), 0)
        self.assertEqual(rows[:1], ((0, "shop", plain(0), plain(0)),))
        self.assertEqual(rows[1:6], (
            (1, "shop", plain(0), plain(0)), (1, "shop", plain(0), None), (1, "shop", tired, tired),
            (1, "shop", plain(1), None), (2, "shop", plain(0), None)))
        book = book_with("ask price", "else", "  set x 1", "if not(x)", "  stop", heads=("cell x 2",), begins="until 0")
        self.assertEqual(self.told(book, ()), ("harmless", ((0, "shop", plain(0), plain(0)),
                                                           (1, "shop", None, plain(1)))))

    def test_both_sides_are_gone(self):
        for lines in (("ask price", "stop"), ("ask price", "else", "  stop", "stop")):
            book = book_with(*lines, begins="until 1")
            self.assertEqual(self.told(book, ()), ("harmless", ((0, "shop", plain(), plain()),
                                                               (1, "shop", plain(), plain()))))
        # The side with the shut door ends first, and the other one on the day behind.
        book = book_with("ask price", "else", "  stop", "if x", "  stop", "set x 1", begins="until 0",
                         heads=("cell x 2",))
        self.assertEqual(self.told(book, ()), ("harmless", ((0, "shop", plain(0), plain(0)),
                                                           (1, "shop", plain(1), None))))

    def test_what_comes_behind_the_first_day_is_not_compared(self):
        book = book_with("ask price", "else", "  cry", begins="until 0")
        for met in ((MISSED,), (MISSED, MISSED)):
            self.assertIs(shows_harm(book, "price", (), ("harms", ("shop", 0, met))), len(met) == 1)

    def test_lives_end(self):
        for lives, expected in (("2", "harmless"), ("3", "harms"), ("always", "harms")):
            book = book_with(*LATE_TELL, heads=LATE_HEADS, lives=lives)
            self.assertEqual(self.told(book, ((2, OPEN),))[0], expected)
        book = book_with("ask price", "else", "  set x 1", heads=("cell x 2",), lives="2", begins="until 1")
        first, last = (((0,), 0, (), 0),) * 2, (((0,), 0, (), 1), ((1,), 0, (), 1))
        self.assertEqual(self.told(book, ()), ("harmless", (
            (0, "shop", *first), (1, "shop", *first), (1, "shop", *last), (2, "shop", *last))))

    def test_calendars_and_moments(self):
        book = book_with("if same(k, 2)", "  ask price", "  else", "    cry", calendars=("k 4",), begins="until 0")
        for days in range(9):
            told = self.told(book, ((days, ("half", ())),) * (days > 0))
            self.assertEqual(last_day(told[1]), days + (2 - days) % 4)
        quiet = book_with("if same(k, 2)", "  ask price", calendars=("k 4",), begins="until 1")
        told = self.told(quiet, ((7, OPEN),))
        self.assertEqual(told, ("harmless", tuple((moment, "shop", plain(), plain()) for moment in range(2, 6))))

    def test_who_begins_later_with_the_stand_of_one_who_is_there(self):
        # Only who begins on day 2 is not warned on day 1.
        book = book_with("if same(k, 1)", "  set x 1", "if and(same(k, 2), not(x))", "  ask price", "  else", "    cry",
                         calendars=("k 5",), heads=("cell x 2",), begins="until 9")
        for days in (0, 1):
            told = self.told(book, ((days, OPEN),) * days)
            self.assertEqual(told, ("harms", ("shop", 2, (MISSED,))))

    def test_users_choose(self):
        book = book_with("if press", "  ask price", "  else", "    cry", heads=("user press 2",), begins="until 0")
        self.assertEqual(self.told(book, ((9, QUIET),))[1][2][-1], ((1,), (0,), False))
        book = book_with("if not(press)", "  set x more(x)", "else", "  set x 0", "if same(x, 3)", "  ask price",
                         "  else", "    cry", heads=("cell x 4", "user press 2 within 3"))
        self.assertEqual(self.told(book, ())[0], "harmless")
        free = Book(book.text.replace("within 3", "within 4"))
        self.assertEqual(len(self.told(free, ())[1][2]), 3)

    def test_answers_of_the_shut_door_are_those_that_the_open_one_gives(self):
        # The open side tells the answer, the shut one 0: so it is harmed by each answer but 0.
        book = book_with("ask price x", "tell x", heads=("cell x 3",), doors=("price 3",))
        self.assertIn(self.told(book, ())[1][2][0][1], ((1,), (2,)))
        self.assertEqual(self.told(Book(book.text.replace("price 3", "price 1")), ())[0], "harmless")

    def test_the_other_door_goes_on(self):
        book = book_with("ask stock x", "else", "  cry", "ask price", "tell x", doors=("price 1", "stock 2"),
                         heads=("cell x 2",))
        self.assertEqual(self.told(book, ())[0], "harmless")
        self.assertEqual(self.told(book, (), "stock")[0], "harms")

    def test_the_one_copy(self):
        book = book_with("if press", "  set x 1", "if x", "  ask price", "  else", "    cry", begins="one",
                         heads=("cell x 2", "user press 2"), sleeps="0")
        self.assertEqual(last_day(self.told(book, ())[1]), 0)
        self.assertEqual(last_day(self.told(book, ((3, QUIET),))[1]), 3)
        told = self.told(book, ((2, QUIET), (1, HEARD)))
        self.assertEqual((told[1][:2], last_day(told[1])), (("shop", 0), 3))
        ends = book_with("ask price", "else", "  cry", "stop", begins="one")
        self.assertEqual(self.told(ends, ((1, OPEN),)), ("harmless", ()))
        self.assertEqual(self.told(ends, ())[0], "harms")

    def test_the_one_copy_has_all_somes(self):
        # It was heard to ask: so it did not choose to be done with it.
        book = book_with("if press", "  set x 1", "if not(x)", "  ask price", "  else", "    cry", begins="one",
                         heads=("cell x 2", "user press 2"))
        self.assertEqual(self.told(book, ((1, OPEN),))[0], "harms")
        self.assertEqual(self.told(book, ((1, OPEN), (1, HEARD)))[1][2][0][0], (0,))
        self.assertEqual(self.told(book, ((1, QUIET),)), ("harmless", ((1, "shop", ((1,), 0, (0,), 0),
                                                                        ((1,), 0, (0,), 0)),)))

    def test_a_some_rules_out_nothing(self):
        lines = ("if press", "  ask price", "  else", "    cry", "  set x 1")
        book = book_with(*lines, heads=("cell x 2", "user press 2"), begins="until 2", sleeps="1")
        some, both = report("open", "asks/shop/some"), report("open", "asks/shop/some", "cries/*/none")
        for ahead, behind in ((OPEN, some), (report("open", "cries/*/none"), both)):
            for days in (1, 3):
                self.assertEqual(self.told(book, ((days, ahead),)), self.told(book, ((days, behind),)))
        one = Book(book.text.replace("begins until 2\n  lives always", "one"))
        self.assertEqual(self.told(one, ((1, some),))[1][2][0], ((1,), (0,), True))

    def test_how_many_clients_there_are_does_not_matter(self):
        alone = Book(book_of(*client("a", "  cell x 2", "  day", "    ask price x")))
        both = Book(alone.text + "\n" + "\n".join(client("b", "  day", "    rest")))
        rows = self.told(both, ((2, OPEN),))[1]
        self.assertEqual(tuple(row for row in rows if row[1] == "a"), self.told(alone, ((2, OPEN),))[1])

    def test_histories_cut_otherwise(self):
        book = book_with(*LATE_TELL, heads=LATE_HEADS, begins="until 3", sleeps="1")
        for whole, cut in ((((3, OPEN),), ((1, OPEN), (2, OPEN))), (((2, QUIET), (2, HEARD)),
                                                                   ((1, QUIET), (1, QUIET), (1, HEARD), (1, HEARD)))):
            self.assertEqual(self.told(book, whole), self.told(book, cut))

    def test_names_turned(self):
        book = book_with(*LATE_TELL, heads=LATE_HEADS, begins="until 3")
        other = Book(book.text.replace("shop", "store").replace("price", "stock"))
        for history in ((), ((1, OPEN),), ((9, OPEN),)):
            told, turned = harm(book, "price", history), harm(other, "stock", history)
            self.assertEqual(repr(told).replace("shop", "store"), repr(turned))

    def test_clients_turned(self):
        lines = [client("a", "  day", "    ask price", "    else", "      cry"), client("b", "  day", "    rest")]
        one, other = (Book(book_of(*first, *second)) for first, second in (lines, lines[::-1]))
        for history in ((), ((2, HALF),)):
            self.assertEqual(harm(one, "price", history), harm(other, "price", history))
            self.assertEqual(harmed(one, "price", history), ("a",))
            self.assertEqual(harmed(other, "price", history), ("a",))

    def test_who_is_shut_out_is_never_harmed(self):
        for lines, heads in ((LATE_TELL, LATE_HEADS), (STOPS_SHUT, ("cell x 2",)), (STOPS_OPEN, ("cell x 2",)),
                             (("ask price x", "else", "  cry", "tell x"), ("cell x 2",))):
            for begins in ("always", "until 2", "one"):
                book = book_with(*lines, heads=heads, begins=begins, sleeps="1")
                self.assertEqual(harmed(book, "price", ()), ("shop",))
                for history in ((), ((2, SHUT),), ((1, HALF), (1, OPEN))):
                    self.assertEqual(self.told(shut_out(book, "shop", "price"), history)[0], "harmless")

    def test_equal_calls(self):
        book = book_with(*LATE_TELL, heads=LATE_HEADS, sleeps="1")
        text = book.text
        for history in ((), ((3, HALF),)):
            self.assertEqual(harm(book, "price", history), harm(Book(text), "price", history))
        self.assertEqual(book.text, text)


class HarmedTest(Told):
    def test_each_client(self):
        quiet = client("c", "  day", "    rest")
        asks = ["  day", "    ask price", "    else", "      cry"]
        book = Book(book_of(*client("b", *asks), *quiet, *client("a", *asks)))
        self.assertEqual(harmed(book, "price", ()), ("a", "b"))
        self.assertEqual(harmed(book, "price", ((3, QUIET),)), ("a", "b"))
        self.told(book, ())

    def test_on_any_day(self):
        fast, slow = client("a", "  day", "    ask price", "    else", "      cry"), client("b", "  cell n 9", "  day")
        slow += ["    if same(n, 8)", "      ask price", "      else", "        cry", "    set n more(n)"]
        self.assertEqual(harmed(Book(book_of(*fast, *slow)), "price", ()), ("a", "b"))
        self.assertEqual(harmed(Book(book_of(*client("b", "  day", "    rest"))), "price", ()), ())

    def test_no_days_left(self):
        self.assertEqual(harmed(Book(SHOP), "price", ((4, QUIET),)), ())


def harm_counter(until):
    """The lines of a client that is harmed on day until and not ahead."""
    lines = ["client late", "  begins until 0", "  lives always", "  sleeps 0", "  cell n 30", "  cell m 2", "  day"]
    lines += [f"    if and(same(n, {until % 30}), same(m, {until // 30}))", "      ask price", "      else",
              "        cry", "    if same(n, 29)", "      set m 1", "      set n 0", "    else", "      set n more(n)"]
    return "\n" + "\n".join(lines)


class TooManyTest(Told):
    def test_as_many_as_there_may_be(self):
        book = slow_rows("until 0")
        told = harm(book, "price", ((1, OPEN),))
        self.assertEqual((told[0], len(told[1])), ("harmless", 1500))
        self.assertIs(shows_harm(book, "price", ((1, OPEN),), told), True)
        self.assertEqual(raised(harm, book, "price", ()), ("TooMany", 1500))
        self.assertEqual(raised(harmed, book, "price", ()), ("TooMany", 1500))

    def test_sides_that_are_gone(self):
        # Of each row one side is gone; as soon as both are, it does not count.
        for lines, many in ((("ask price", "else", "  stop"), 31), (("ask price", "stop"), 1)):
            book = book_with(*lines, begins="until 0", calendars=("five 5", "six 6"))
            self.assertEqual(len(self.told(book, ())[1]), many)

    def test_it_is_raised_ahead_of_looks_at_the_day(self):
        book = slow_rows("always", more=harm_counter(59))
        counts = naive_shut.naive_harm(book, "price", [])[2]
        day = [count > 1500 for count in counts].index(True)
        for late in range(day - 2, day + 2):
            book = slow_rows("always", more=harm_counter(late))
            got = raised(harm, book, "price", ())
            if late < day:
                self.assertEqual((got[0], got[1][0], last_day(got[1])), ("harms", "late", late))
            else:
                self.assertEqual(got, ("TooMany", 1500))

    def test_pairs_count_and_not_stands(self):
        # Each side has few stands, but both together many.
        lines = ("if press", "  set x more(x)", "if pull", "  ask price", "  else", "    set y more(y)")
        book = book_with(*lines, heads=("cell x 2", "cell y 30", "user press 2", "user pull 2"),
                         calendars=("five 5", "six 6"))
        self.assertEqual(len(still_asked(book, "price", ())[1][2]), 1)
        self.assertEqual(raised(harm, book, "price", ()), ("TooMany", 1500))
        few = Book(book.text.replace("cell y 30", "cell y 25"))
        told = harm(few, "price", ())
        self.assertEqual((told[0], len(told[1])), ("harmless", 1500))
        self.assertEqual(len([row for row in told[1] if row[2] == row[3]]), 60)
        self.assertEqual(raised(harm, Book(book.text.replace("cell y 30", "cell y 26")), "price", ()),
                         ("TooMany", 1500))

    def test_of_harmed_by_each_client_alone(self):
        lines = slow_rows("until 0").text.split("\n")
        both = Book("\n".join(lines + ["client twin"] + lines[5:]))
        history = ((1, OPEN),)
        self.assertEqual(raised(harm, both, "price", history), ("TooMany", 1500))
        self.assertEqual(harmed(both, "price", history), ())
        late = slow_rows("until 0", more=harm_counter(59))
        self.assertEqual(raised(harm, late, "price", history), ("TooMany", 1500))
        self.assertEqual(harmed(late, "price", history), ("late",))

    def test_of_harmed_ahead_of_the_day_on_which_it_harms(self):
        # Harmed first, one client does not keep the other one from having too many rows.
        lines = slow_rows("always").text.split("\n")
        fast = client("fast", "  day", "    ask price", "    else", "      cry")
        for text in (lines[:4] + fast + lines[4:], lines + fast):
            self.assertEqual(harm(Book("\n".join(text)), "price", ())[0], "harms")
            self.assertEqual(raised(harmed, Book("\n".join(text)), "price", ()), ("TooMany", 1500))

    def test_shows_does_not_raise_it(self):
        book = slow_rows("always", more=harm_counter(59))
        course = ("late", 0, (((), (0, 0), False),) * 60)
        self.assertEqual(raised(harm, book, "price", ()), ("TooMany", 1500))
        self.assertIs(shows_harm(book, "price", (), ("harms", course)), True)
        self.assertIs(shows_harm(book, "price", (), ("harmless", ())), False)

    def test_shows_takes_tables_of_more_rows(self):
        book = slow_rows("always")
        rows = tuple((moment, "shop", plain(x, y), plain(x, y)) for moment in range(30) for x in range(26)
                     for y in range(2))
        self.assertIs(shows_harm(book, "price", (), ("harmless", rows)), True)
        self.assertIs(shows_harm(book, "price", (), ("harmless", rows[:-1])), False)
        self.assertIs(shows_harm(book, "price", (), ("harmless", rows + rows)), True)

    def test_stands_go_ahead(self):
        book = many_stands("always")
        plan = (SHUT,)
        cannot = ((40, OPEN), (1, report("open", "asks/*/none", "asks/shop/some")))
        for history in (((40, OPEN),), cannot):
            for function, more in ((harm, ()), (harmed, ()), (shows_harm, (None,)), (hurts, (plan,)),
                                   (shows_hurts, (plan, None))):
                self.assertEqual(raised(function, book, "price", history, *more), ("TooMany", 300))
        self.assertEqual(harm(book, "price", ((20, OPEN),))[0], "harmless")


class HurtsTest(unittest.TestCase):
    def told(self, book, history, plan, door="price"):
        """What hurts tells, looked at once more by the naive words."""
        told = hurts(book, door, history, plan)
        reports = naive_days(history)
        day = naive_shut.naive_hurts(book, door, reports, plan)[0]
        if day is None:
            self.assertEqual(told, ("gentle",))
        else:
            self.assertEqual((told[0], last_day(told[1])), ("hurts", day))
        self.assertTrue(naive_shut.naive_shows_hurts(book, door, reports, plan, told), told)
        self.assertIs(shows_hurts(book, door, history, plan, told), True)
        return told

    def test_no_days(self):
        for history in ((), ((3, OPEN),)):
            self.assertEqual(self.told(Book(SHOP), history, ()), ("gentle",))

    def test_states(self):
        book = book_with("ask price", "else", "  cry", begins="until 0")
        for plan, expected in (((OPEN,), None), ((QUIET, OPEN), None), ((SHUT,), (MISSED,)), ((HALF,), (MISSED,)),
                               ((OPEN, SHUT), (MET, MISSED)), ((OPEN, HALF), (MET, MISSED)),
                               ((OPEN,) * 12, None), ((OPEN,) * 11 + (SHUT,), (MET,) * 11 + (MISSED,))):
            told = self.told(book, (), plan)
            self.assertEqual(told, ("gentle",) if expected is None else ("hurts", ("shop", 0, expected)))

    def test_what_is_heard_does_not_count(self):
        book = book_with("ask price", "else", "  cry", begins="until 0")
        for ears in (("asks/*/none",), ("asks/shop/none", "cries/*/none"), ("cries/shop/none",), ()):
            self.assertEqual(self.told(book, (), (report("shut", *ears),))[0], "hurts")
            self.assertEqual(self.told(book, (), (report("open", *ears),)), ("gentle",))

    def test_hurt_is_seen_days_later(self):
        book = book_with(*LATE_TELL, heads=LATE_HEADS, begins="until 0")
        told, unseen = (ONE, ((), (0,), True), ((), (0,), True)), ((), (0,), True)
        self.assertEqual(self.told(book, (), (SHUT, OPEN, OPEN)), ("hurts", ("shop", 0, told)))
        # Behind the plan, or ahead of it, nothing counts.
        self.assertEqual(self.told(book, (), (SHUT, OPEN)), ("gentle",))
        self.assertEqual(self.told(book, ((1, OPEN),), (SHUT, SHUT, SHUT)), ("gentle",))
        self.assertEqual(self.told(book, ((1, SHUT),), (SHUT, SHUT, SHUT)), ("gentle",))
        self.assertEqual(self.told(book, (), (OPEN, SHUT, SHUT)), ("gentle",))
        for states in ((HALF, SHUT, HALF), (HALF, OPEN, SHUT)):
            self.assertEqual(self.told(book, (), states)[1][2][0], ONE)
        self.assertFalse(shows_hurts(book, "price", (), (SHUT, SHUT, OPEN), ("hurts", ("shop", 0, (ONE,) + (unseen,) * 2))))

    def test_a_side_is_gone(self):
        book = book_with(*STOPS_SHUT, heads=("cell x 2",), begins="until 0")
        self.assertEqual(self.told(book, (), (SHUT, OPEN)), ("hurts", ("shop", 0, (MISSED, MET))))
        self.assertEqual(self.told(book, (), (SHUT,)), ("gentle",))
        book = book_with(*STOPS_OPEN, heads=("cell x 2",), begins="until 0")
        self.assertEqual(self.told(book, (), (SHUT, SHUT)), ("hurts", ("shop", 0, (MISSED, MISSED))))
        self.assertEqual(self.told(book, (), (OPEN, SHUT)), ("gentle",))

    def test_copies_that_begin_while_the_plan_goes_on(self):
        for begins, day in (("until 0", None), ("until 2", None), ("until 3", 3), ("always", 3), ("one", None)):
            book = book_with("ask price", "else", "  cry", begins=begins, lives="always")
            history = ((3, report("open", "asks/*/none")),) if begins != "one" else ((3, OPEN),)
            if begins == "one":
                self.assertEqual(self.told(book, history, (SHUT,))[0], "hurts")
                continue
            told = self.told(book, history, (SHUT, SHUT))
            self.assertEqual(told[0], "gentle" if day is None else "hurts")
            if day is not None:
                self.assertEqual(told[1], ("shop", day, told[1][2]))

    def test_begins_on_a_later_day_of_the_plan(self):
        book = book_with("if same(k, 3)", "  ask price", "  else", "    cry", calendars=("k 5",), lives="1")
        told = self.told(book, ((1, OPEN),), (SHUT,) * 3)
        self.assertEqual(told, ("hurts", ("shop", 3, (MISSED,))))
        self.assertEqual(self.told(book, ((1, OPEN),), (SHUT,) * 2), ("gentle",))
        self.assertEqual(self.told(book, ((4, OPEN),), (SHUT,) * 4), ("gentle",))
        self.assertEqual(self.told(book, ((4, OPEN),), (SHUT,) * 5)[1][:2], ("shop", 8))

    def test_too_many_rows(self):
        # The rows of each day count, also where they are those of another day.
        book = many_stands("until 0")
        for days, plan_days in ((25, 6), (25, 5), (30, 5), (30, 6), (20, 12)):
            plan = (SHUT,) * plan_days
            history = ((days, OPEN),)
            counts = naive_shut.naive_hurts(book, "price", naive_days(history), plan)[1]
            got = raised(hurts, book, "price", history, plan)
            self.assertEqual(got, ("TooMany", 1500) if counts[-1] > 1500 else ("gentle",))
            self.assertIs(shows_hurts(book, "price", history, plan, ("gentle",)), True)
            if (days, plan_days) == (30, 5):
                self.assertEqual(counts[-1], 1500)

    def test_too_many_rows_ahead_of_looks_at_the_day(self):
        for late in (33, 34, 35, 36):
            heads = "\nclient late\n  begins until 0\n  lives always\n  sleeps 0\n  cell n 30\n  cell m 2\n  day\n"
            body = harm_counter(late).split("  day\n")[1]
            book = Book(many_stands("until 0").text + heads + body)
            counts = naive_shut.naive_hurts(book, "price", naive_days(((30, OPEN),)), (SHUT,) * 7)[1]
            got = raised(hurts, book, "price", ((30, OPEN),), (SHUT,) * 7)
            many = counts[min(late - 30, len(counts) - 1)]
            if many > 1500:
                self.assertEqual(got, ("TooMany", 1500))
            else:
                self.assertEqual((got[0], last_day(got[1])), ("hurts", late))
            course = ("late", 0, (((), (0, 0), True),) * 30 + (((), (0, 0), False),) * (late - 29))
            self.assertIs(shows_hurts(book, "price", ((30, OPEN),), (SHUT,) * 7, ("hurts", course)), True)


class ShowsHarmTest(OrderMixin, unittest.TestCase):
    def shows(self, book, history, value, door="price"):
        told = shows_harm(book, door, history, value)
        self.assertIs(type(told), bool)
        self.assertEqual(told, bool(naive_shut.naive_shows_harm(book, door, naive_days(history), value)), value)
        return told

    def test_one_thing_changed(self):
        for lines, heads, history, begins in (
            (("ask price x", "else", "  set x 1"), ("cell x 2",), (), "until 1"),
            (LATE_TELL, LATE_HEADS, ((1, HALF),), "until 1"), (STOPS_SHUT, ("cell x 2",), (), "one"),
            (("ask price", "else", "  stop"), (), ((2, HALF),), "until 1"),
        ):
            book = book_with(*lines, heads=heads, begins=begins, sleeps="1")
            told = harm(book, "price", history)
            self.assertTrue(self.shows(book, history, told))
            for value in changed(told):
                self.shows(book, history, value)

    def test_tables_in_any_sequence(self):
        book = book_with("ask price x", "else", "  stop", begins="until 1", heads=("cell x 2",))
        rows = harm(book, "price", ())[1]
        for table in (rows, rows[::-1], rows + rows, rows + rows[2:3], rows[1:] + rows[:1]):
            self.assertTrue(self.shows(book, (), ("harmless", table)))
        for at in range(len(rows)):
            self.assertFalse(self.shows(book, (), ("harmless", rows[:at] + rows[at + 1:])))

    def test_tables_with_more_rows(self):
        book = book_with("if same(x, 2)", "  tell y", "ask price", "else", "  if same(x, 3)", "    cry",
                         begins="until 0", heads=("cell x 4", "cell y 2"))
        rows = harm(book, "price", ((1, OPEN),))[1]
        self.assertEqual(rows, ((1, "shop", plain(0, 0), plain(0, 0)),))
        for one, other, expected in (
            (plain(1, 0), plain(1, 0), True), (plain(1, 0), plain(0, 1), True), (plain(2, 1), plain(2, 1), True),
            (plain(2, 1), plain(2, 0), False), (plain(2, 0), plain(1, 0), False), (plain(3, 0), plain(3, 0), False),
            (plain(3, 0), plain(0, 0), True), (plain(0, 0), plain(3, 0), False), (None, plain(1, 0), True),
            (plain(1, 0), None, True), (None, plain(2, 0), False), (plain(2, 0), None, False), (None, None, False),
        ):
            with self.subTest(one=one, other=other):
                self.assertIs(self.shows(book, ((1, OPEN),), ("harmless", rows + ((1, "shop", one, other),))), expected)

    def test_rows_of_the_right_form(self):
        book = book_with("rest", heads=("cell x 2", "user u 2 within 2"), calendars=("k 2",), sleeps="1", lives="2")
        rows = harm(book, "price", ())[1]
        self.assertTrue(self.shows(book, (), ("harmless", rows)))
        first, last = ((0,), 0, (0,), 0), ((1,), 0, (0,), 1)
        for row, expected in (
            ((0, "shop", last, last), True), ((0, "shop", last, ((0,), 0, (0,), 1)), True),
            ((0, "shop", last, None), True), ((0, "shop", None, last), True),
            ((0, "shop", last, ((1,), 1, (0,), 1)), False), ((0, "shop", last, ((1,), 0, (1,), 1)), False),
            ((0, "shop", last, ((1,), 0, (0,), 0)), False), ((2, "shop", last, last), False),
            ((-1, "shop", last, last), False), ((True, "shop", last, last), False), ((0, "price", last, last), False),
            ((0, "shop", last), False), ((0, "shop", last, last, last), False), ((0, "shop", last, ()), False),
            ((0, "shop", ((2,), 0, (0,), 1), last), False), ((0, "shop", ((1,), 2, (0,), 1), last), False),
            ((0, "shop", ((True,), 0, (0,), 1), last), False), ([0, "shop", last, last], False), ((), False),
            ((0, ["shop"], last, last), False), (None, False), ((0, "shop", first, last), False),
        ):
            with self.subTest(row=row):
                self.assertIs(self.shows(book, (), ("harmless", rows + (row,))), expected)
        self.assertFalse(self.shows(book, (), ("harmless", list(rows))))

    def test_rows_come_with_the_next_moment(self):
        book = book_with("rest", calendars=("k 3",), begins="until 0")
        rows = tuple((moment, "shop", plain(), plain()) for moment in range(4))
        self.assertTrue(self.shows(book, (), ("harmless", rows)))
        self.assertTrue(self.shows(book, ((1, OPEN),), ("harmless", rows[1:])))
        self.assertTrue(self.shows(book, ((1, OPEN),), ("harmless", rows)))
        for at in range(4):
            self.assertFalse(self.shows(book, (), ("harmless", rows[:at] + rows[at + 1:])))

    def test_copies_that_begin_later(self):
        book = book_with("stop", begins="until 2")
        rows = tuple((day, "shop", plain(), plain()) for day in range(3))
        for days in range(4):
            history = ((days, OPEN),) * (days > 0)
            self.assertTrue(self.shows(book, history, ("harmless", rows[days:])))
            if days < 3:
                self.assertFalse(self.shows(book, history, ("harmless", rows[days + 1:])))
                self.assertFalse(self.shows(book, history, ("harmless", rows[:2])))

    def test_courses_of_whatever_length(self):
        book = book_with(*STOPS_SHUT, heads=("cell x 2",), begins="until 2", sleeps="always")
        for history in ((), ((1, QUIET),), ((2, HALF),)):
            for begin in range(4):
                for met in ((MISSED,), (MISSED, MISSED), ((), MISSED, (), MISSED), (MISSED, ()), (MET, MISSED),
                            (MISSED, MET), (MISSED,) * 3, ((), MISSED, MISSED), (MISSED, (), (), MISSED),
                            ((), (), MISSED, MISSED), (), (MET, MET, MISSED), (MISSED, MISSED, ())):
                    self.shows(book, history, ("harms", ("shop", begin, met)))
        self.assertTrue(self.shows(book, (), ("harms", ("shop", 2, ((),) * 9 + (MISSED, (), MISSED)))))
        self.assertTrue(self.shows(book, ((1, QUIET),), ("harms", ("shop", 0, ((), MISSED, MISSED)))))
        self.assertFalse(self.shows(book, ((1, QUIET),), ("harms", ("shop", 0, (MISSED, MISSED)))))
        self.assertFalse(self.shows(book, (), ("harms", ("shop", 3, (MISSED, MISSED)))))

    def test_turns_stand_as_long_as_one_side_is_there(self):
        book = book_with("ask price", "else", "  stop", "if x", "  stop", "set x 1", begins="until 0",
                         heads=("cell x 2", "user u 2"))
        turn = ((0,), (0,), False)
        for many in range(1, 5):
            self.assertFalse(self.shows(book, (), ("harms", ("shop", 0, (turn,) * many))))

    def test_turns_are_those_of_the_side_that_is_there(self):
        book = book_with(*STOPS_SHUT, heads=("cell x 2", "user u 2 within 2"), begins="until 0", sleeps="1")
        zero, one = ((0,), (0,), False), ((1,), (0,), False)
        for met, expected in (((zero, one), True), ((one, zero), True), ((zero, zero), False), ((zero, (), one), True),
                              ((zero, (), zero), False), ((zero, (), (), one), False), (((), zero, (), one), True)):
            self.assertIs(self.shows(book, (), ("harms", ("shop", 0, met))), expected)

    def test_courses_ahead_of_the_last_morning_are_lives(self):
        book = book_with(*STOPS_SHUT, heads=("cell x 2",), begins="until 2")
        # By this history the copy is gone.
        self.assertFalse(self.shows(book, ((1, SHUT),), ("harms", ("shop", 0, (MISSED, MISSED)))))
        self.assertTrue(self.shows(book, ((1, SHUT),), ("harms", ("shop", 1, (MISSED, MISSED)))))
        self.assertFalse(self.shows(book, ((2, OPEN),), ("harms", ("shop", 1, (MISSED, MISSED)))))

    def test_courses_of_the_one_copy(self):
        book = book_with("ask price", "else", "  cry", sleeps="always", begins="one")
        history = ((1, OPEN), (1, HEARD))
        self.assertTrue(self.shows(book, history, ("harms", ("shop", 0, ((), MET, MISSED)))))
        self.assertFalse(self.shows(book, history, ("harms", ("shop", 0, (MET, (), MISSED)))))
        many = book_with("ask price", "else", "  cry", sleeps="always", begins="until 0")
        self.assertTrue(self.shows(many, history, ("harms", ("shop", 0, (MET, (), MISSED)))))
        self.assertFalse(self.shows(book, history, ("harms", ("shop", 2, (MISSED,)))))

    def test_far_days(self):
        book = book_with("ask price", "else", "  cry")
        far = 10 ** 17
        self.assertIs(shows_harm(book, "price", ((3, QUIET),), ("harms", ("shop", far, (MISSED,)))), True)
        self.assertIs(shows_harm(book, "price", ((3, QUIET),), ("harms", ("shop", far, (MET,)))), False)

    def test_any_value(self):
        book = Book(SHOP)
        course = harm(book, "price", ())[1]
        self.assert_none_shown(lambda value: shows_harm(book, "price", (), value), ("harms", "harmless"))
        for value in (("harms",), ("harms", course, course), ("harmless", course), ("harms", list(course)), course,
                      ("harms", (course,)), ["harms", course], (["harms"], course), ("hurts", course)):
            self.assertIs(shows_harm(book, "price", (), value), False)
        self.assertIs(shows_harm(book, "price", ((4, QUIET),), ("harmless", ())), True)
        self.assertIs(shows_harm(book, "price", ((4, QUIET),), ("harmless", [])), False)


class ShowsHurtsTest(OrderMixin, unittest.TestCase):
    def shows(self, book, history, plan, value, door="price"):
        told = shows_hurts(book, door, history, plan, value)
        self.assertIs(type(told), bool)
        reports = naive_days(history)
        self.assertEqual(told, bool(naive_shut.naive_shows_hurts(book, door, reports, plan, value)), value)
        return told

    def test_one_thing_changed(self):
        book = book_with(*STOPS_SHUT, heads=("cell x 2",), begins="until 1", sleeps="1")
        for history, plan in (((), (HALF, SHUT, OPEN)), (((1, HALF),), (SHUT, OPEN)), (((2, QUIET),), (OPEN,))):
            told = hurts(book, "price", history, plan)
            self.assertTrue(self.shows(book, history, plan, told))
            for value in changed(told):
                self.shows(book, history, plan, value)

    def test_gentle(self):
        book = book_with("ask price", "else", "  cry")
        self.assertTrue(self.shows(book, (), (OPEN, OPEN), ("gentle",)))
        for plan in ((SHUT,), (OPEN, HALF)):
            self.assertFalse(self.shows(book, (), plan, ("gentle",)))

    def test_courses_within_the_days_of_the_plan(self):
        book = book_with("ask price", "else", "  cry", sleeps="always", begins="until 3")
        plan = (OPEN, SHUT, HALF)
        for begin in range(5):
            for met in ((MISSED,), (MET, MISSED), (MET, MET, MISSED), (MET, (), MISSED), ((), MISSED), ((), (), MISSED),
                        ((), (), MET), ((), (), (), MISSED), ((), (), (), ()), (MET, MISSED, MISSED), (), ((), MET),
                        (MET, MET, MET, MISSED), ((), (), MET, MISSED)):
                for history in ((), ((1, OPEN),), ((1, QUIET),)):
                    self.shows(book, history, plan, ("hurts", ("shop", begin, met)))
        self.assertTrue(self.shows(book, (), plan, ("hurts", ("shop", 0, (MET, (), MISSED)))))
        self.assertTrue(self.shows(book, (), plan, ("hurts", ("shop", 2, (MISSED,)))))
        self.assertFalse(self.shows(book, (), plan, ("hurts", ("shop", 3, (MISSED,)))))
        self.assertFalse(self.shows(book, (), plan, ("hurts", ("shop", 0, (MISSED,)))))

    def test_any_value(self):
        book = Book(SHOP)
        shows = lambda value: shows_hurts(book, "price", (), (OPEN, SHUT), value)
        self.assert_none_shown(shows, ("gentle", "hurts"))
        course = hurts(book, "price", (), (OPEN, SHUT))[1]
        for value in (("hurts",), ("hurts", course, course), ("gentle", course), ("harms", course), "gentle"):
            self.assertIs(shows(value), False)
        gentle = lambda value: shows_hurts(book, "price", (), (), value)
        self.assertIs(gentle(("gentle",)), True)
        for value in ("gentle", ["gentle"], ("gentle", ()), (("gentle",),), ("gentle", None)):
            self.assertIs(gentle(value), False)


PLANS = [[], [SHUT], None, True, 0, "", "shut", {}, SHUT, (SHUT, []), (SHUT, None), ("shut",), (("shut",),),
         ((1, SHUT),), (SHUT,) * 13, (HEARD,), (OPEN, report("shut", "cries/shop/some")), (("Shut", ()),),
         (["shut", ()],), (("shut", []),), (report("open", "asks/nobody/none"),), Book(SHOP), (Book(SHOP),), (True,),
         (report("open", "asks/*/some"),), (((), ()),), ([[[]]],)]


class ErrorsTest(OrderMixin, unittest.TestCase):
    def test_order(self):
        book = Book(SHOP)
        call = lambda function, *more: lambda *arguments: function(book, *arguments, *more)
        for function in (call(harm), call(harmed), call(shows_harm, ("harmless", ()))):
            self.assert_order(function, ["price", ((2, OPEN),)], ["BadDoor", "BadHistory"])
        for function in (call(hurts), call(shows_hurts, ("gentle",))):
            self.assert_order(function, ["price", ((2, OPEN),), (SHUT,)], ["BadDoor", "BadHistory", None])

    def test_bad_plans(self):
        for book in (Book(SHOP), many_stands("always")):
            for history in ((), ((40, OPEN),), ((4, QUIET), (1, HEARD))):
                for plan in PLANS:
                    with self.subTest(history=history, plan=plan):
                        for function, more in ((hurts, ()), (shows_hurts, (("gentle",),)), (shows_hurts, (None,))):
                            got = raised(function, book, "price", history, plan, *more)
                            self.assertEqual(got[0], "BadPlan")
                            self.assertIs(got[1], plan)

    def test_plans_of_twelve_days(self):
        for plan in ((), (OPEN,), (QUIET,) * 12, (report("half", "asks/shop/none", "cries/*/none"),) * 12):
            self.assertIn(hurts(Book(SHOP), "price", ((4, QUIET),), plan), (("gentle",),))

    def test_cannot_be(self):
        book = Book(SHOP)
        history = ((4, QUIET), (1, OPEN), (1, HEARD), (2, OPEN))
        one = book_with("ask price", begins="one")
        for function, more in ((harm, ()), (harmed, ()), (shows_harm, (("harmless", ()),)), (hurts, ((SHUT,),)),
                               (shows_hurts, ((SHUT,), ("gentle",)))):
            self.assertEqual(raised(function, book, "price", history, *more), ("CannotBe", 5))
            self.assertEqual(raised(function, one, "price", ((3, OPEN), (1, QUIET)), *more), ("CannotBe", 3))

    def test_cannot_be_goes_ahead_of_too_many_rows(self):
        cannot = ((1, report("open", "cries/shop/some")),)
        for function in (harm, harmed):
            self.assertEqual(raised(function, slow_rows("always"), "price", cannot), ("CannotBe", 0))

    def test_by_name(self):
        book = Book(SHOP)
        history = ((4, QUIET),)
        self.assertEqual(harm(history=history, door="price", book=book), ("harmless", ()))
        self.assertEqual(harmed(history=history, door="price", book=book), ())
        self.assertEqual(hurts(plan=(SHUT,), history=history, door="price", book=book), ("gentle",))
        self.assertIs(shows_harm(value=("harmless", ()), history=history, door="price", book=book), True)
        self.assertIs(shows_hurts(value=("gentle",), plan=(SHUT,), history=history, door="price", book=book), True)


if __name__ == "__main__":
    unittest.main()
