"""Section 7: what can have been."""

import unittest

from unmissed.books import Book
from unmissed.fitting import can_be, shows_can_be, shows_within, stands, within
from unmissed.reports import fits
from tests.naive import naive_counts, naive_days, naive_shows_can_be, naive_shows_within
from tests.samples import ODD_VALUES, SHOP, book_of, book_with, client, raised

OPEN, SHUT, HALF = ("open", ()), ("shut", ()), ("half", ())
QUIET = ("open", (("asks", "*", "none"),))
HEARD = ("open", (("asks", "shop", "some"),))
CRIED = ("open", (("cries", "shop", "some"),))
MET, MISSED = ((), (0,), True), ((), (0,), False)


def report(state, *ears):
    return state, tuple(sorted(tuple(ear.split("/")) for ear in ears))


def plain(*cells):
    return (cells, 0, (), 0)


class ExampleTest(unittest.TestCase):
    def test_the_examples_of_section_7(self):
        book = Book(SHOP)
        self.assertEqual([stands(book, "price", ((2, OPEN),), "shop"), stands(book, "price", ((2, QUIET),), "shop")],
                         [(plain(0), plain(1)), ()])
        found = can_be(book, "price", ((3, QUIET), (1, HEARD)))
        self.assertEqual([found[0], [row[:3] + row[3][:2] for row in found[1]], found[2]],
                         ["can", [(3, "asks", "shop", "shop", 3)], None])
        self.assertEqual(can_be(book, "price", ((4, QUIET), (1, HEARD)))[:4], ("nobody", 4, "asks", "shop"))
        self.assertEqual(within(book, "price", ((2, QUIET),), ((2, OPEN),)), ("within",))


class CanBeTest(unittest.TestCase):
    def assert_can(self, book, history, door="price"):
        told = can_be(book, door, history)
        self.assertEqual(told[0], "can")
        self.assertTrue(naive_shows_can_be(book, door, naive_days(history), told), told)
        self.assertIs(shows_can_be(book, door, history, told), True)
        return told

    def test_no_days(self):
        for begins in ("always", "until 0", "one"):
            self.assertEqual(can_be(book_with("ask price", begins=begins), "price", ()), ("can", (), None))

    def test_no_somes(self):
        self.assertEqual(can_be(Book(SHOP), "price", ((9, OPEN), (60 - 9, QUIET))), ("can", (), None))

    def test_rows_cut_otherwise(self):
        book = Book(SHOP)
        for whole, cut in ((((3, OPEN),), ((1, OPEN), (2, OPEN))), (((4, QUIET), (2, HEARD)),
                                                                   ((1, QUIET), (3, QUIET), (1, HEARD), (1, HEARD)))):
            self.assertEqual(can_be(book, "price", whole), can_be(book, "price", cut))

    def test_a_life_for_each_some(self):
        book = book_with("ask price", "else", "  cry", sleeps="always", lives="3")
        heard = report("half", "asks/shop/some", "cries/shop/some")
        told = self.assert_can(book, ((1, OPEN), (2, heard), (3, QUIET)))
        self.assertEqual([row[:3] for row in told[1]], [(1, "asks", "shop"), (1, "cries", "shop"),
                                                       (2, "asks", "shop"), (2, "cries", "shop")])
        self.assertIsNone(told[2])

    def test_lives_have_a_turn_up_to_the_last_day_or_their_end(self):
        book = book_with("ask price", sleeps="always", begins="until 0")
        told = self.assert_can(book, ((1, HEARD), (5, QUIET)))
        self.assertEqual(told[1][0][3], ("shop", 0, (MET,) + ((),) * 5))
        book = book_with("ask price", "stop", begins="until 0")
        told = self.assert_can(book, ((1, HEARD), (5, QUIET)))
        self.assertEqual(told[1][0][3], ("shop", 0, (MET,)))

    def test_the_life_goes_on_to_the_last_day(self):
        # Who asked on day 0 with the answer 0 asks again on day 1, on which nobody asked.
        lines = ("if same(kept, 0)", "  ask price kept")
        book = book_with(*lines, heads=("cell kept 2",), begins="until 0")
        told = self.assert_can(book, ((1, HEARD), (1, QUIET)))
        self.assertEqual(told[1][0][3][2], (((), (1,), True), MET))

    def test_the_life_that_goes_on_longest(self):
        # Who chooses 1 asks on the next day.
        book = book_with("if x", "  ask price", "set x u", "cry", heads=("cell x 2", "user u 2"), begins="until 0")
        for history, choices in (
            (((1, CRIED), (1, QUIET)), [0]), (((1, CRIED), (1, OPEN), (1, QUIET)), [None, 0]),
            (((1, CRIED), (3, QUIET)), [0, 0, 0]), (((1, OPEN), (1, CRIED), (1, QUIET)), [None, 0]),
        ):
            met = self.assert_can(book, history)[1][0][3][2]
            for at, choice in enumerate(choices):
                self.assertIn(met[at][0][0], (0, 1) if choice is None else (choice,))

    def test_the_one_copy(self):
        book = book_with("ask price", sleeps="always", begins="one")
        told = self.assert_can(book, ((1, QUIET), (2, HEARD), (1, OPEN), (1, HEARD)))
        life = told[2]
        self.assertEqual(told[1], tuple((day, "asks", "shop", life) for day in (1, 2, 4)))
        self.assertEqual(life[2][:3], ((), MET, MET))
        self.assertEqual((life[:2], len(life[2]), life[2][4]), (("shop", 0), 5, MET))

    def test_the_one_copy_up_to_its_end(self):
        book = book_with("ask price", "stop", begins="one")
        self.assertEqual(self.assert_can(book, ((1, HEARD), (5, QUIET)))[2], ("shop", 0, (MET,)))

    def test_one_and_others(self):
        me = ["client me", "  one", "  sleeps 1", "  day", "    ask price"]
        book = Book(book_of(*me, *client("shop", "  day", "    ask price")))
        heard = report("open", "asks/me/some", "asks/shop/some")
        told = self.assert_can(book, ((1, OPEN), (1, heard)))
        self.assertEqual([row[:3] for row in told[1]], [(1, "asks", "me"), (1, "asks", "shop")])
        self.assertEqual(told[1][0][3], told[2])
        self.assertEqual(told[1][1][3][0], "shop")

    def test_no_some_of_the_one_copy(self):
        book = book_with("rest", begins="one", sleeps="0")
        self.assertEqual(can_be(book, "price", ((3, SHUT),)), ("can", (), ("shop", 0, (MISSED,) * 3)))

    def test_some_of_others_needs_no_common_copy(self):
        # Each copy asks on its first day only; each some is had by another one.
        book = book_with("if not(x)", "  ask price", "  set x 1", heads=("cell x 2",))
        self.assert_can(book, ((9, HEARD),))
        self.assertEqual(can_be(book_with("if not(x)", "  ask price", "  set x 1", heads=("cell x 2",), begins="one"),
                                "price", ((9, HEARD),))[:2], ("one", 1))


class NobodyTest(unittest.TestCase):
    def assert_nobody(self, book, history, expected, door="price"):
        told = can_be(book, door, history)
        self.assertEqual(told, ("nobody",) + expected)
        self.assertTrue(naive_shows_can_be(book, door, naive_days(history), told))
        self.assertIs(shows_can_be(book, door, history, told), True)

    def test_nobody_is_there_any_more(self):
        book = book_with("ask price", begins="until 1", lives="1")
        first = ((plain(), False),)
        self.assert_nobody(book, ((2, OPEN), (2, HEARD)), (
            2, "asks", "shop", (((((), 0, (), 0), False),), ((((), 0, (), 0), False), (None, False)),
                                ((None, False),), ((None, False),))))
        book = book_with("ask price", begins="until 1")
        self.assert_nobody(book, ((2, QUIET), (1, HEARD), (1, OPEN)), (2, "asks", "shop", (first, first, (), ())))

    def test_who_has_it_cannot_go_on(self):
        # Who cried asks on the next day; nobody asked on it.
        lines = ("if kept", "  ask price", "else", "  ask stock kept", "  if kept", "    cry")
        book = book_with(*lines, heads=("cell kept 2",), begins="until 0", doors=("price 1", "stock 2"))
        rows = (((plain(0), False),), ((plain(0), False), (plain(1), True)), ((plain(0), False), (plain(1), False)))
        self.assert_nobody(book, ((1, CRIED), (1, QUIET), (9, CRIED)), (0, "cries", "shop", rows))
        self.assertEqual(can_be(book, "price", ((1, CRIED), (1, OPEN), (9, CRIED)))[0], "can")

    def test_the_shortest_beginning(self):
        book = book_with("ask price")
        nobody = report("open", "asks/*/none", "asks/shop/some")
        for ahead in range(4):
            for behind in range(3):
                history = ((ahead, OPEN),) * (ahead > 0) + ((1, nobody), (9, report("shut", "cries/shop/some")))
                table = (((plain(), False),),) * (ahead + 1) + ((),)
                self.assert_nobody(book, history[:len(history) - 1 + (behind > 0)], (ahead, "asks", "shop", table))

    def test_the_first_one_of_its_beginning(self):
        text = book_of(*client("b", "  day", "    rest"), *client("a", "  day", "    rest"))
        book = Book(text)
        both = report("open", "asks/a/some", "asks/b/some", "cries/a/some")
        self.assertEqual(can_be(book, "price", ((1, both),))[:4], ("nobody", 0, "asks", "a"))
        both = report("open", "asks/b/some", "cries/a/some")
        self.assertEqual(can_be(book, "price", ((1, both),))[:4], ("nobody", 0, "asks", "b"))
        self.assertEqual(can_be(book, "price", ((1, OPEN), (1, both), (1, both)))[:4], ("nobody", 1, "asks", "b"))

    def test_the_day_of_the_some_may_stand_ahead_of_others(self):
        # Both somes are had up to day 1; day 2 ends the lives that have them.
        lines = ("if kept", "  ask price", "else", "  ask stock kept", "  if kept", "    cry")
        book = book_with(*lines, heads=("cell kept 2",), sleeps="2", begins="until 1", doors=("price 1", "stock 2"))
        silent = report("open", "asks/*/none", "cries/shop/none")
        told = can_be(book, "price", ((2, CRIED), (3, silent)))
        self.assertEqual((told[:4], len(told[4])), (("nobody", 0, "cries", "shop"), 6))

    def test_a_copy_that_is_gone_keeps_what_it_did(self):
        book = book_with("if x", "  ask price", "else", "  set x 1", "  ask stock y", "  if y", "    cry", "    stop",
                         heads=("cell x 2", "cell y 2"), begins="until 0", doors=("price 1", "stock 2"))
        self.assertEqual(can_be(book, "price", ((1, CRIED), (3, QUIET)))[:2], ("can", (
            (0, "cries", "shop", ("shop", 0, (((), (0, 1), True),))),)))
        told = can_be(book, "price", ((1, CRIED), (3, QUIET), (1, HEARD)))
        self.assertEqual(told[:4], ("nobody", 4, "asks", "shop"))
        self.assertEqual(told[4][0], ((plain(0, 0), False),))
        self.assertEqual(told[4][1], ((plain(1, 0), False), (None, False)))
        self.assertEqual(told[4][2:], (((None, False),),) * 4)

    def test_none_stands_behind_all_stands_and_false_ahead_of_true(self):
        book = book_with("ask price x", "if x", "  stop", begins="until 0", sleeps="1", heads=("cell x 2",))
        history = ((1, HEARD), (1, OPEN), (1, report("open", "asks/*/none", "cries/shop/some")))
        told = can_be(book, "price", history)
        self.assertEqual(told[:4], ("nobody", 2, "cries", "shop"))
        awake, tired = plain(0), ((0,), 1, (), 0)
        self.assertEqual(told[4], (((awake, False),), ((awake, False), (tired, False), (None, False)),
                                   ((awake, False), (tired, False), (None, False)), ((tired, False), (None, False))))


class OneTest(unittest.TestCase):
    def assert_one(self, book, history, expected, door="price"):
        told = can_be(book, door, history)
        self.assertEqual(told, ("one",) + expected)
        self.assertTrue(naive_shows_can_be(book, door, naive_days(history), told))
        self.assertIs(shows_can_be(book, door, history, told), True)

    def test_it_has_no_turn(self):
        book = book_with("ask price", begins="one")
        self.assert_one(book, ((1, OPEN), (1, QUIET), (4, OPEN)), (1, ((plain(),), (plain(),), ())))

    def test_it_has_not_all_somes(self):
        book = book_with("if same(x, 1)", "  ask price", "set x more(x)", begins="one", sleeps="2", heads=("cell x 4",))
        tired = [((n,), m, (), 0) for n in range(4) for m in range(3)]
        self.assert_one(book, ((1, OPEN), (2, HEARD), (1, OPEN)), (2, (
            (plain(0),), (tired[1], plain(1)), (plain(2),), ())))

    def test_it_is_gone(self):
        book = book_with("ask price", "if more(0)", "  stop", begins="one", sleeps="1")
        self.assert_one(book, ((1, HEARD), (2, OPEN), (1, HEARD)), (3, ((plain(),), (None,), (None,), (None,), ())))

    def test_others_come_ahead_of_it(self):
        me = ["client me", "  one", "  sleeps 0", "  day", "    ask price"]
        text = book_of(*me, *client("shop", "  day", "    rest"))
        silent = report("open", "asks/me/none", "asks/shop/some")
        self.assertEqual(can_be(Book(text), "price", ((1, silent),))[:4], ("nobody", 0, "asks", "shop"))
        self.assertEqual(can_be(Book(text), "price", ((1, QUIET), (1, silent)))[:2], ("one", 0))


class StandsTest(unittest.TestCase):
    def test_no_days(self):
        for begins in ("always", "until 3", "one"):
            self.assertEqual(stands(book_with("rest", begins=begins), "price", (), "shop"), ())

    def test_none_begin_in_the_last_morning(self):
        book = book_with("rest", lives="3")
        self.assertEqual(stands(book, "price", ((1, OPEN),), "shop"), (((), 0, (), 1),))
        self.assertEqual(stands(book, "price", ((9, OPEN),), "shop"), (((), 0, (), 1), ((), 0, (), 2)))

    def test_who_is_gone_is_not_told(self):
        book = book_with("stop")
        self.assertEqual(stands(book, "price", ((3, OPEN),), "shop"), ())

    def test_sleep(self):
        for sleeps, many in (("0", 1), ("1", 2), ("3", 4)):
            book = book_with("rest", sleeps=sleeps)
            self.assertEqual(stands(book, "price", ((9, OPEN),), "shop"), tuple(((), n, (), 0) for n in range(many)))
        book = book_with("set x 1", sleeps="always", heads=("cell x 2",))
        self.assertEqual(stands(book, "price", ((9, OPEN),), "shop"), (plain(0), plain(1)))

    def test_begins(self):
        book = book_with("set x more(x)", begins="until 1", heads=("cell x 9",))
        self.assertEqual(stands(book, "price", ((5, OPEN),), "shop"), (plain(4), plain(5)))
        book = book_with("set x more(x)", begins="one", heads=("cell x 9",))
        self.assertEqual(stands(book, "price", ((5, OPEN),), "shop"), (plain(5),))
        book = book_with("set x more(x)", heads=("cell x 4",))
        self.assertEqual(stands(book, "price", ((9, OPEN),), "shop"), (plain(1), plain(2), plain(3)))

    def test_users(self):
        book = book_with("rest", begins="until 0", heads=("user a 2", "user b 2 within 3"))
        self.assertEqual(stands(book, "price", ((1, OPEN),), "shop"), (((), 0, (0, 0), 0), ((), 0, (0, 1), 0)))
        self.assertEqual(stands(book, "price", ((9, OPEN),), "shop"), tuple(((), 0, (0, n), 0) for n in range(3)))

    def test_what_was_not_heard_rules_out(self):
        book = book_with("if x", "  ask price", "ask stock x", sleeps="always", heads=("cell x 2",),
                         doors=("price 1", "stock 2"), begins="until 0")
        self.assertEqual(stands(book, "price", ((2, OPEN), (1, QUIET)), "shop"), (plain(0), plain(1)))
        awake = book_with("if x", "  ask price", "ask stock x", heads=("cell x 2",), doors=("price 1", "stock 2"),
                          begins="until 0")
        self.assertEqual(stands(awake, "price", ((2, OPEN), (1, QUIET)), "shop"), (plain(0), plain(1)))
        once = book_with("if x", "  ask price", "else", "  if not(y)", "    ask stock x", "    set y 1",
                         begins="until 0", heads=("cell x 2", "cell y 2"), doors=("price 1", "stock 2"))
        self.assertEqual(stands(once, "price", ((2, OPEN),), "shop"), (plain(0, 1), plain(1, 1)))
        self.assertEqual(stands(once, "price", ((1, OPEN), (1, QUIET)), "shop"), (plain(0, 1),))

    def test_some_rules_out_nothing_but_of_the_one_copy(self):
        lines = ("if press", "  ask price", "  set x 1")
        for begins, expected in (("until 0", (plain(0), plain(1))), ("one", (plain(1),))):
            book = book_with(*lines, begins=begins, heads=("cell x 2", "user press 2"))
            told = stands(book, "price", ((1, HEARD),), "shop")
            self.assertEqual(told, tuple((cells, 0, (0,), 0) for cells, _, _, _ in expected))

    def test_states(self):
        book = book_with("ask price", "else", "  set x 1", heads=("cell x 2",), begins="until 0")
        for state, expected in ((OPEN, (plain(0),)), (SHUT, (plain(1),)), (HALF, (plain(0), plain(1)))):
            self.assertEqual(stands(book, "price", ((1, state),), "shop"), expected)

    def test_calendars(self):
        book = book_with("if same(week, 6)", "  set x 1", calendars=("week 7",), heads=("cell x 2",), begins="until 0")
        for days in range(1, 12):
            told = stands(book, "price", ((days, OPEN),), "shop")
            self.assertEqual(told, (plain(int(days >= 7)),))

    def test_how_many_there_are_of_others_does_not_matter(self):
        alone = Book(book_of(*client("a", "  cell x 2", "  day", "    ask price x")))
        both = Book(alone.text + "\n" + "\n".join(client("b", "  day", "    ask price")))
        for history in (((3, OPEN),), ((1, QUIET), (1, SHUT))):
            self.assertEqual(stands(both, "price", history, "a"), stands(alone, "price", history, "a"))

    def test_cannot_be(self):
        book = Book(SHOP)
        for ahead in range(5):
            history = ((4, QUIET),) + ((ahead, OPEN),) * (ahead > 0) + ((2, HEARD),)
            self.assertEqual(raised(stands, book, "price", history, "shop"), ("CannotBe", 4 + ahead))
        one = book_with("ask price", begins="one")
        self.assertEqual(raised(stands, one, "price", ((2, OPEN), (1, QUIET)), "shop"), ("CannotBe", 2))
        self.assertEqual(raised(stands, one, "price", ((1, QUIET),), "shop"), ("CannotBe", 0))

    def test_cannot_be_because_of_another_client(self):
        book = Book(book_of(*client("a", "  day", "    rest"), *client("b", "  day", "    rest")))
        history = ((1, OPEN), (1, report("open", "asks/b/some")))
        self.assertEqual(raised(stands, book, "price", history, "a"), ("CannotBe", 1))


class WithinTest(unittest.TestCase):
    def told(self, book, one, other, door="price"):
        told = within(book, door, one, other)
        self.assertTrue(naive_shows_within(book, door, naive_days(one), naive_days(other), told), told)
        self.assertIs(shows_within(book, door, one, other, told), True)
        if told[0] == "not":
            self.assertIs(fits(book, door, one, told[1]), True)
            self.assertIs(fits(book, door, other, told[1]), False)
        return told[0]

    def test_no_days(self):
        self.assertEqual(self.told(Book(SHOP), (), ()), "within")

    def test_states(self):
        book = book_with("rest")
        for one in (OPEN, SHUT, HALF):
            for other in (OPEN, SHUT, HALF):
                expected = "within" if one == other or other == HALF else "not"
                self.assertEqual(self.told(book, ((1, one),), ((1, other),)), expected)
        asleep = book_with("rest", sleeps="always", begins="until 0")
        self.assertEqual(self.told(asleep, ((1, OPEN),), ((1, SHUT),)), "not")

    def test_ears(self):
        book = book_with("ask price")
        self.assertEqual(self.told(book, ((2, QUIET),), ((2, OPEN),)), "within")
        self.assertEqual(self.told(book, ((2, OPEN),), ((2, QUIET),)), "not")
        self.assertEqual(self.told(book, ((1, OPEN), (1, QUIET)), ((1, QUIET), (1, OPEN))), "within")
        begun = book_with("ask price", begins="until 0", sleeps="1")
        self.assertEqual(self.told(begun, ((1, OPEN), (1, QUIET)), ((1, QUIET), (1, OPEN))), "not")
        cries = report("open", "cries/shop/none")
        self.assertEqual(self.told(book, ((2, OPEN),), ((2, cries),)), "within")
        self.assertEqual(self.told(book_with("cry"), ((2, OPEN),), ((2, cries),)), "not")
        for who in ("*", "shop"):
            self.assertEqual(self.told(book, ((2, report("open", f"asks/{who}/none")),), ((2, QUIET),)), "within")

    def test_somes_do_not_count(self):
        for begins in ("always", "one"):
            book = book_with("rest", begins=begins)
            self.assertEqual(self.told(book, ((2, OPEN),), ((2, HEARD),)), "within")
            self.assertEqual(self.told(book, ((2, HEARD),), ((2, OPEN),)), "within")
            self.assertEqual(self.told(book, ((2, HEARD),), ((2, SHUT),)), "not")

    def test_who_does_not_go_on_does_not_fit(self):
        # By the other history nobody meets the door on day 0; but who meets it asks again on day 1.
        book = book_with("ask price", "else", "  stop", begins="until 0")
        self.assertEqual(self.told(book, ((1, HALF), (1, QUIET)), ((1, SHUT), (1, QUIET))), "within")
        self.assertEqual(self.told(book, ((1, HALF), (1, OPEN)), ((1, SHUT), (1, OPEN))), "not")

    def test_any_turn_of_the_day(self):
        # Who chooses 1 asks on the next day; so on the day ahead of a quiet one only 0 is chosen.
        book = book_with("if x", "  ask price", "set x u", "cry", heads=("cell x 2", "user u 2"), begins="until 0")
        silent = report("open", "cries/*/none")
        self.assertEqual(self.told(book, ((1, OPEN), (1, QUIET)), ((1, silent), (1, QUIET))), "not")
        self.assertEqual(self.told(book, ((2, OPEN), (1, QUIET)), ((1, silent), (1, OPEN), (1, QUIET))), "not")

    def test_any_client(self):
        book = Book(book_of(*client("a", "  day", "    rest"), *client("b", "  day", "    ask price")))
        for who, expected in (("a", "within"), ("b", "not"), ("*", "not")):
            self.assertEqual(self.told(book, ((1, OPEN),), ((1, report("open", f"asks/{who}/none")),)), expected)

    def test_rows_cut_otherwise(self):
        book = book_with("ask price")
        self.assertEqual(self.told(book, ((3, OPEN),), ((1, OPEN), (2, OPEN))), "within")
        self.assertEqual(self.told(book, ((1, OPEN), (2, OPEN)), ((3, QUIET),)), "not")


# From day 25 on a copy that began on day 0 can have 300 stands: 50 of its cells by 6 of its users.
MANY_LINES = ("if x", "  if y", "    set x more(x)", "else", "  set x 1", "ask stock y")
MANY_HEADS = ("cell x 26", "cell y 2", "user a 2 within 3", "user b 2 within 2")


def many_stands(begins, lines=MANY_LINES, heads=MANY_HEADS):
    return book_with(*lines, begins=begins, heads=heads, doors=("price 1", "stock 2"))


class TooManyTest(unittest.TestCase):
    def test_as_many_as_there_may_be(self):
        for begins in ("until 0", "one"):
            book = many_stands(begins)
            self.assertEqual(naive_counts(book, "price", [OPEN] * 30, "shop")[24:], [288] + [300] * 6)
            for days in (30, 60):
                self.assertEqual(len(stands(book, "price", ((days, OPEN),), "shop")), 300)
                self.assertEqual(can_be(book, "price", ((days, OPEN),))[0], "can")

    def test_one_more_in_a_morning(self):
        # With those that begin on each day there are 301, but 300 in the last morning.
        book = many_stands("always")
        self.assertEqual(naive_counts(book, "price", [OPEN] * 25, "shop")[24:], [289, 300])
        self.assertEqual(len(stands(book, "price", ((25, OPEN),), "shop")), 300)
        self.assertEqual(naive_counts(book, "price", [OPEN] * 26, "shop")[24:], [289, 301, 300])
        for days in (26, 27, 60):
            history = ((days, OPEN),)
            for call in (lambda: can_be(book, "price", history), lambda: stands(book, "price", history, "shop"),
                         lambda: shows_can_be(book, "price", history, None),
                         lambda: within(book, "price", history, ((days, QUIET),)),
                         lambda: shows_within(book, "price", history, history, ("within",))):
                self.assertEqual(raised(call), ("TooMany", 300))

    def test_in_the_last_morning(self):
        heads = ("cell x 27", "cell y 2", "user a 2 within 3", "user b 2 within 2")
        for begins in ("until 0", "one"):
            book = many_stands(begins, heads=heads)
            self.assertEqual(naive_counts(book, "price", [OPEN] * 26, "shop")[24:], [288, 300, 312])
            self.assertEqual(len(stands(book, "price", ((25, OPEN),), "shop")), 300)
            for days in (26, 27):
                self.assertEqual(raised(stands, book, "price", ((days, OPEN),), "shop"), ("TooMany", 300))

    def test_who_is_gone_does_not_count(self):
        book = book_with("ask price", "else", "  stop", *MANY_LINES, begins="until 0", heads=MANY_HEADS,
                         doors=("price 1", "stock 2"))
        self.assertEqual(len(stands(book, "price", ((30, HALF),), "shop")), 300)

    def test_only_lives_that_fit_count(self):
        lines = MANY_LINES[:2] + ("    cry",) + MANY_LINES[2:]
        book = many_stands("always", lines=lines)
        silent = report("open", "cries/*/none")
        self.assertEqual(raised(can_be, book, "price", ((40, OPEN),)), ("TooMany", 300))
        self.assertEqual(can_be(book, "price", ((40, silent),))[0], "can")
        self.assertEqual(raised(within, book, "price", ((40, OPEN),), ((40, silent),)), ("TooMany", 300))
        self.assertEqual(within(book, "price", ((40, silent),), ((40, OPEN),)), ("within",))

    def test_somes_of_the_one_copy_do_not_count(self):
        heads = ("cell x 27", "cell y 2", "user a 2 within 3", "user b 2 within 2")
        lines = MANY_LINES[:2] + ("    cry",) + MANY_LINES[2:]
        book = many_stands("one", heads=heads, lines=lines)
        history = ((2, OPEN), (26, report("open", "cries/shop/some")))
        self.assertEqual(raised(can_be, book, "price", history), ("TooMany", 300))

    def test_it_goes_ahead_of_cannot_be(self):
        book = many_stands("always")
        never = report("open", "asks/shop/some")
        for history in (((1, never), (40, OPEN)), ((40, OPEN), (1, never))):
            self.assertEqual(raised(can_be, book, "price", history), ("TooMany", 300))
            self.assertEqual(raised(stands, book, "price", history, "shop"), ("TooMany", 300))

    def test_any_client(self):
        other = "\n".join(client("other", "  day", "    rest"))
        book = Book(many_stands("always").text + "\n" + other)
        self.assertEqual(raised(stands, book, "price", ((40, OPEN),), "other"), ("TooMany", 300))
        first = Book("\n".join(["door price 1", "door stock 2", other] + many_stands("always").text.split("\n")[2:]))
        self.assertEqual(raised(stands, first, "price", ((40, OPEN),), "other"), ("TooMany", 300))
        self.assertEqual(len(stands(first, "price", ((9, OPEN),), "other")), 1)


class ErrorsTest(unittest.TestCase):
    HISTORY = ((2, OPEN),)
    WRONG = ODD_VALUES + [0, (1,), "open", ((0, OPEN),), ((1, "open"),), [(1, OPEN)]]

    def assert_order(self, function, right, names, book):
        for at, name in enumerate(names):
            for value in self.WRONG:
                with self.subTest(at=at, value=value):
                    got = raised(function, book, *right[:at], *[value] * (len(right) - at))
                    self.assertEqual(got[0], name)
                    self.assertIs(got[1], value)
                    got = raised(function, book, *right[:at], value, *right[at + 1:])
                    self.assertEqual(got[0], name)
                    self.assertIs(got[1], value)

    def test_can_be(self):
        for book in (Book(SHOP), book_with("rest", begins="one")):
            self.assert_order(can_be, ["price", self.HISTORY], ["BadDoor", "BadHistory"], book)
            shows = lambda *arguments: shows_can_be(*arguments, ("can", (), None))
            self.assert_order(shows, ["price", self.HISTORY], ["BadDoor", "BadHistory"], book)

    def test_stands(self):
        self.assert_order(stands, ["price", self.HISTORY, "shop"], ["BadDoor", "BadHistory", "NoClient"], Book(SHOP))

    def test_no_client_goes_ahead(self):
        cannot = ((1, report("open", "cries/shop/some")),)
        for book, history in ((many_stands("always"), ((40, OPEN),)), (book_with("rest"), cannot)):
            self.assertEqual(raised(stands, book, "price", history, "nobody"), ("NoClient", "nobody"))

    def test_within(self):
        right = ["price", self.HISTORY, self.HISTORY]
        self.assert_order(within, right, ["BadDoor", "BadHistory", "BadHistory"], Book(SHOP))
        shows = lambda *arguments: shows_within(*arguments, ("within",))
        self.assert_order(shows, right, ["BadDoor", "BadHistory", "BadHistory"], Book(SHOP))

    def test_within_of_histories_of_other_lengths(self):
        for one, other in (((), ((1, OPEN),)), (((1, OPEN),), ()), (((2, OPEN),), ((1, OPEN),)),
                           (((60, OPEN),), ((59, OPEN),)), (((1, OPEN), (1, OPEN)), ((3, OPEN),))):
            for book in (Book(SHOP), many_stands("always")):
                self.assertEqual(raised(within, book, "price", one, other), ("BadHistory", other))
                self.assertEqual(raised(shows_within, book, "price", one, other, None), ("BadHistory", other))

    def test_by_name(self):
        book = Book(SHOP)
        self.assertEqual(can_be(history=(), door="price", book=book), ("can", (), None))
        self.assertEqual(stands(client="shop", history=(), door="price", book=book), ())
        self.assertEqual(within(other=(), one=(), door="price", book=book), ("within",))
        self.assertIs(shows_can_be(value=None, history=(), door="price", book=book), False)
        self.assertIs(shows_within(value=None, other=(), one=(), door="price", book=book), False)


if __name__ == "__main__":
    unittest.main()
