"""Section 11: plans that are enough, and the cheapest one."""

import unittest

from unmissed.books import Book
from unmissed.fitting import can_be
from unmissed.harming import harm, hurts, shows_harm
from unmissed.plans import cheapest, enough, shows_cheapest, shows_enough
from tests import naive_shut
from tests.chance import changed
from tests.naive import naive_days, naive_fault, naive_shows_can_be
from tests.orders import WRONG, OrderMixin
from tests.samples import SHOP, WEEK, book_of, book_with, client, raised
from tests.test_asking import last_day, slow_rows
from tests.test_fitting import HALF, HEARD, MET, MISSED, OPEN, QUIET, SHUT, many_stands, plain, report
from tests.test_harming import PLANS, harm_counter
from tests.test_waiting import CRIES

CALM = report("shut", "cries/*/none")


def naive_shows_enough(book, door, reports, plan, value):
    whole = list(reports) + list(plan)
    if type(value) is not tuple or len(value) != 2 or type(value[0]) is not str:
        return False
    word, shown = value
    if word == "heard":
        return type(shown) is tuple and shown[:1] != ("can",) and naive_shows_can_be(book, door, whole, shown)
    if naive_fault(book, door, whole) is not None:
        return False
    if word == "enough":
        return naive_shut.is_naive_harmless(book, door, whole, shown)
    return word == "broken" and naive_shut.is_naive_course(book, door, whole, shown)


def naive_shows_cheapest(book, door, reports, offers, gentle, value):
    if type(value) is not tuple or not value:
        return False
    ways = sorted(range(len(offers)), key=lambda at: (offers[at][1], at))
    if value[0] == "plan" and len(value) == 4:
        _, number, told, reasons = value
        if type(number) is not int or number not in ways:
            return False
        plan = offers[number][0]
        if type(told) is not tuple or told[:1] not in (("enough",), ("heard",)):
            return False
        if not naive_shows_enough(book, door, reports, plan, told):
            return False
        if gentle and naive_shut.naive_hurts(book, door, reports, plan)[0] is not None:
            return False
        ways = ways[:ways.index(number)]
    elif value[0] == "none" and len(value) == 2:
        reasons = value[1]
    else:
        return False
    if type(reasons) is not tuple or len(reasons) != len(ways):
        return False
    return all(naive_reason(book, door, reports, offers[at][0], at, gentle, row) for at, row in zip(ways, reasons))


def naive_reason(book, door, reports, plan, at, gentle, row):
    if type(row) is not tuple or len(row) != 3 or type(row[0]) is not int or row[0] != at:
        return False
    if row[1] == "broken":
        return naive_shows_enough(book, door, reports, plan, row[1:])
    if row[1] != "hurts" or not gentle:
        return False
    return naive_shut.is_naive_course(book, door, reports, row[2], states=[state for state, _ in plan])


class EnoughTest(unittest.TestCase):
    def told(self, book, history, plan, door="price"):
        """What enough tells, which is what can_be or harm tells of the history with the plan."""
        told = enough(book, door, history, plan)
        whole = history + tuple((1, row) for row in plan)
        if can_be(book, door, whole)[0] != "can":
            self.assertEqual(told, ("heard", can_be(book, door, whole)))
        else:
            word, shown = harm(book, door, whole)
            self.assertEqual(told[0], {"harmless": "enough", "harms": "broken"}[word])
            self.assertIs(shows_harm(book, door, whole, (word, told[1])), True)
            if word == "harmless":
                self.assertEqual(told[1], shown)
            else:
                self.assertEqual(last_day(told[1]), last_day(shown))
        self.assertTrue(naive_shows_enough(book, door, naive_days(history), plan, told), told)
        self.assertIs(shows_enough(book, door, history, plan, told), True)
        return told

    def test_silent_days(self):
        book = Book(SHOP)
        for days in range(8):
            told = self.told(book, (), (QUIET,) * days)
            self.assertEqual(told[0], "broken" if days < 4 else "enough")
            self.assertEqual(told[1], () if days > 3 else ("shop", days, told[1][2]))

    def test_no_days(self):
        self.assertEqual(self.told(Book(SHOP), (), ())[0], "broken")
        self.assertEqual(self.told(Book(SHOP), ((4, QUIET),), ()), ("enough", ()))

    def test_twelve_days(self):
        self.assertEqual(self.told(Book(SHOP), ((2, OPEN),), (QUIET,) * 12), ("enough", ()))
        self.assertEqual(self.told(book_with(*CRIES), (), (QUIET,) * 12)[1], ("shop", 12, (MISSED,)))

    def test_a_trial_on_which_nobody_complains(self):
        # Who asks a shut door cries: so behind a shut day without cries none is there that asks each day.
        book = book_with(*CRIES, begins="until 2", sleeps="1")
        for plan, expected in (((CALM,), "broken"), ((OPEN, OPEN, OPEN), "broken"), ((CALM,) * 4, "enough"),
                               ((OPEN,) * 2 + (CALM,) * 2, "enough"), ((QUIET,) * 4, "enough"),
                               ((OPEN,) * 2 + (report("half", "cries/*/none"),) * 2, "broken"),
                               ((OPEN,) * 2 + (report("half", "asks/*/none"),) * 2, "enough"),
                               ((OPEN,) * 2 + (report("shut", "asks/shop/none"), CALM), "enough"),
                               ((OPEN,) * 4, "broken"), ((SHUT,) * 4, "broken")):
            self.assertEqual(self.told(book, (), plan)[0], expected, plan)

    def test_a_trial_can_make_silence_worth_nothing(self):
        # On a shut day a copy begins to keep what it has for three days.
        book = book_with("if left", "  set left fewer(left)", "else", "  ask price", "  else", "    if calm",
                         "      cry", "    set left 3", "    set calm 1", begins="until 0",
                         heads=("cell left 4", "cell calm 2"))
        self.assertEqual(self.told(book, (), (QUIET,))[0], "enough")
        self.assertEqual(self.told(book, (), (SHUT, QUIET))[0], "broken")
        self.assertEqual(self.told(book, (), (SHUT, QUIET, QUIET, QUIET))[0], "broken")
        self.assertEqual(self.told(book, (), (SHUT, QUIET, QUIET, QUIET, QUIET))[0], "enough")

    def test_a_trial_can_move_a_copy_to_where_it_is_harmed(self):
        # Who met no door once shows from then on whether it meets it.
        book = book_with("if moved", "  set show 1", "  ask price", "  else", "    set show 0", "  tell show", "else",
                         "  ask price", "  else", "    set moved 1", "  tell 0", begins="until 0",
                         heads=("cell moved 2", "cell show 2"))
        for plan, expected in (((), "enough"), ((OPEN,), "enough"), ((SHUT,), "broken"), ((SHUT, OPEN), "broken"),
                               ((HALF,), "broken"), ((OPEN, report("half", "asks/*/none")), "enough")):
            self.assertEqual(self.told(book, (), plan)[0], expected)

    def test_something_is_surely_heard(self):
        one = book_with("ask price", begins="one")
        told = self.told(one, ((1, OPEN),), (OPEN, QUIET, OPEN))
        self.assertEqual(told, ("heard", ("one", 2, ((plain(),),) * 3 + ((),))))
        cries = book_with(*CRIES, begins="one")
        self.assertEqual(self.told(cries, (), (CALM,)), ("heard", ("one", 0, ((plain(),), ()))))
        self.assertEqual(self.told(cries, (), (OPEN,))[0], "broken")
        asleep = book_with(*CRIES, begins="one", sleeps="2")
        for days in range(5):
            self.assertEqual(self.told(asleep, (), (QUIET,) * days)[0], "broken" if days < 3 else "heard")

    def test_who_was_heard_is_surely_heard_again(self):
        # A copy that asked on day 0 asks on each day: so it cannot be silent.
        book = book_with("ask price", begins="until 0")
        told = self.told(book, ((1, HEARD),), (OPEN, QUIET))
        self.assertEqual(told[1][:4], ("nobody", 0, "asks", "shop"))
        self.assertEqual(self.told(book, ((1, OPEN),), (OPEN, QUIET)), ("enough", ()))

    def test_which_words_of_a_plan_count(self):
        book = Book(book_of(*client("a", "  day", *["    " + line for line in CRIES]), *client("b", "  day", "    rest")))
        many = Book(book.text.replace("begins always", "begins until 0"))
        for plan, expected in (((report("open", "asks/a/none"),), "enough"), ((report("open", "asks/b/none"),), "broken"),
                               ((report("open", "asks/*/none"),), "enough"), ((report("shut", "cries/a/none"),), "enough"),
                               ((report("open", "cries/a/none"),), "broken"), ((OPEN,), "broken")):
            self.assertEqual(self.told(many, (), plan)[0], expected)

    def test_too_many_stands(self):
        book = many_stands("always")
        for history, plan in ((((20, OPEN),), (OPEN,) * 6), ((), (OPEN,) * 12), (((26, OPEN),), ())):
            expected = len(naive_days(history)) + len(plan) > 25
            got = raised(enough, book, "price", history, plan)
            self.assertEqual(got == ("TooMany", 300), expected)
            got = raised(shows_enough, book, "price", history, plan, None)
            self.assertEqual(got, ("TooMany", 300) if expected else False)

    def test_too_many_stands_go_ahead_of_heard(self):
        text = many_stands("always").text + "\nclient me\n  one\n  sleeps 0\n  day\n    ask price"
        self.assertEqual(enough(Book(text), "price", (), (QUIET,))[0], "heard")
        self.assertEqual(raised(enough, Book(text), "price", ((20, OPEN),), (QUIET,) * 12), ("TooMany", 300))
        self.assertEqual(raised(shows_enough, Book(text), "price", ((20, OPEN),), (QUIET,) * 12, None),
                         ("TooMany", 300))

    def test_cannot_be_goes_ahead_of_too_many_stands_with_the_plan(self):
        text = many_stands("always").text + "\nclient me\n  one\n  sleeps 0\n  day\n    ask price"
        history = ((20, OPEN), (1, QUIET))
        self.assertEqual(raised(enough, Book(text), "price", history, (OPEN,) * 12), ("CannotBe", 20))
        self.assertEqual(raised(enough, Book(text), "price", history + ((9, OPEN),), (OPEN,)), ("TooMany", 300))

    def test_too_many_rows(self):
        book = slow_rows("until 0")
        self.assertEqual(raised(enough, book, "price", (), ()), ("TooMany", 1500))
        self.assertEqual(len(enough(book, "price", (), (OPEN,))[1]), 1500)
        self.assertIs(shows_enough(book, "price", (), (), ("enough", ())), False)
        late = slow_rows("until 0", more=harm_counter(50))
        course = ("late", 0, (((), (0, 0), True),) + (((), (0, 0), False),) * 50)
        self.assertEqual(raised(enough, late, "price", (), (OPEN,)), ("TooMany", 1500))
        self.assertIs(shows_enough(late, "price", (), (OPEN,), ("broken", course)), True)

    def test_heard_goes_ahead_of_too_many_rows(self):
        text = slow_rows("until 0").text + "\nclient me\n  one\n  sleeps 0\n  day\n    ask price"
        self.assertEqual(raised(enough, Book(text), "price", (), (OPEN,)), ("TooMany", 1500))
        self.assertEqual(enough(Book(text), "price", (), (QUIET,))[0], "heard")

    def test_equal_calls(self):
        book = Book(WEEK)
        for plan in ((), (OPEN, QUIET), (QUIET,) * 9):
            self.assertEqual(enough(book, "price", ((2, OPEN),), plan), enough(Book(WEEK), "price", ((2, OPEN),), plan))
        self.assertEqual(book.text, WEEK)

    def test_histories_cut_otherwise(self):
        book = Book(WEEK)
        for plan in ((), (QUIET, CALM)):
            self.assertEqual(self.told(book, ((3, OPEN),), plan), self.told(book, ((1, OPEN), (2, OPEN)), plan))


class ShowsEnoughTest(OrderMixin, unittest.TestCase):
    def shows(self, book, history, plan, value, door="price"):
        told = shows_enough(book, door, history, plan, value)
        self.assertIs(type(told), bool)
        expected = naive_shows_enough(book, door, naive_days(history), plan, value)
        self.assertEqual(told, bool(expected), value)
        return told

    def test_one_thing_changed(self):
        one = book_with("if press", *["  " + line for line in CRIES], begins="one", heads=("user press 2",))
        asks = book_with(*CRIES, begins="until 0")
        for book, history, plan in ((one, ((1, HEARD),), (QUIET,)), (asks, ((1, HEARD),), (QUIET,)),
                                    (asks, (), (CALM,)), (asks, ((1, OPEN),), (HALF,)),
                                    (book_with("ask price", begins="one"), (), (OPEN, QUIET))):
            told = enough(book, "price", history, plan)
            self.assertTrue(self.shows(book, history, plan, told))
            for value in changed(told):
                self.shows(book, history, plan, value)

    def test_only_one_word_is_right(self):
        book = book_with("ask price", begins="one")
        told = enough(book, "price", (), (QUIET,))
        self.assertEqual(told[0], "heard")
        for value in (("enough", ()), ("broken", ("shop", 0, (MET, MISSED))), ("heard", ("can", (), None)),
                      ("heard", can_be(book, "price", ())), ("heard", None), ("heard", ()), ("heard", []),
                      ("heard", ("one", 0)), ("heard", list(told[1]))):
            self.assertFalse(self.shows(book, (), (QUIET,), value))
        # By itself this is a table of no rows that is closed: but the history with the plan cannot be.
        gone = book_with("ask price", "stop", begins="one")
        self.assertEqual(enough(gone, "price", (), (QUIET,))[0], "heard")
        self.assertFalse(self.shows(gone, (), (QUIET,), ("enough", ())))
        # A course of one client where another one makes the plan impossible.
        both = Book(book.text + "\n" + "\n".join(client("b", "  day", *["    " + line for line in CRIES])))
        self.assertFalse(self.shows(both, (), (QUIET,), ("broken", ("b", 1, (MISSED,)))))
        self.assertTrue(self.shows(both, (), (OPEN,), ("broken", ("b", 1, (MISSED,)))))

    def test_heard_where_it_can_be(self):
        book = book_with("ask price", begins="one", sleeps="1")
        told = enough(book, "price", (), (QUIET, QUIET))
        self.assertEqual(told[0], "heard")
        self.assertFalse(self.shows(book, (), (QUIET, OPEN), told))

    def test_any_value(self):
        book = Book(SHOP)
        for plan in ((QUIET,), (QUIET,) * 4):
            told = enough(book, "price", (), plan)
            shows = lambda value: shows_enough(book, "price", (), plan, value)
            if told[0] == "broken":
                self.assert_none_shown(shows, ("enough", "broken", "heard"))
            for value in (told[:1], told + (None,), list(told), (told,), told[1], told[0], ("plan", told[1]),
                          ("harmless", told[1]), ("harms", told[1]), ("Enough", ()), (["enough"], ()), ("enough", [])):
                self.assertIs(shows(value), False)


class CheapestTest(unittest.TestCase):
    def told(self, book, history, offers, door="price", **named):
        told = cheapest(book, door, history, offers, **named)
        gentle = named.get("gentle", False)
        self.assertTrue(naive_shows_cheapest(book, door, naive_days(history), offers, gentle, told), told)
        self.assertIs(shows_cheapest(book, door, history, offers, told, **named), True)
        return told

    def test_by_prices(self):
        book = Book(SHOP)
        few, many, more = (QUIET,) * 3, (QUIET,) * 4, (QUIET,) * 5
        broken = enough(book, "price", (), few)[1]
        for offers, number, ahead in (
            (((few, 0), (many, 2), (more, 1)), 2, (0,)), (((few, 5), (many, 2), (more, 3)), 1, ()),
            (((many, 99), (few, 98)), 0, (1,)), (((few, 7), (many, 0)), 1, ()), (((few, 1), (few, 0), (more, 1)), 2, (1, 0)),
        ):
            told = self.told(book, (), offers)
            self.assertEqual(told, ("plan", number, ("enough", ()), tuple((at, "broken", broken) for at in ahead)))

    def test_of_like_prices_by_numbers(self):
        book = Book(SHOP)
        few, many, more = (QUIET,) * 3, (QUIET,) * 4, (QUIET,) * 5
        for offers, number, ahead in (
            (((many, 3), (more, 3)), 0, ()), (((more, 3), (many, 3)), 0, ()), (((few, 3), (many, 3), (more, 3)), 1, (0,)),
            (((few, 3), (few, 3), (many, 3)), 2, (0, 1)), (((many, 4), (few, 3), (few, 3), (few, 2)), 0, (3, 1, 2)),
        ):
            told = self.told(book, (), offers)
            self.assertEqual((told[:2], tuple(row[0] for row in told[3])), (("plan", number), ahead))

    def test_none_is_enough(self):
        book = book_with(*CRIES)
        self.assertEqual(self.told(book, (), ()), ("none", ()))
        offers = (((QUIET,) * 12, 9), ((), 9), ((CALM,) * 3, 1))
        told = self.told(book, (), offers)
        self.assertEqual(told, ("none", ((2, "broken", ("shop", 3, (MISSED,))), (0, "broken", ("shop", 12, (MISSED,))),
                                         (1, "broken", ("shop", 0, (MISSED,))))))

    def test_something_is_surely_heard(self):
        book = book_with("ask price", begins="one")
        told = self.told(book, (), (((QUIET,), 3), ((OPEN,), 4)))
        self.assertEqual(told, ("plan", 0, ("heard", ("one", 0, ((plain(),), ()))), ()))

    def test_gentle(self):
        book = book_with(*CRIES, begins="until 0")
        offers = (((CALM,), 1), ((QUIET,), 2))
        course = hurts(book, "price", (), (CALM,))[1]
        self.assertEqual(self.told(book, (), offers)[:2], ("plan", 0))
        self.assertEqual(self.told(book, (), offers, gentle=False)[:2], ("plan", 0))
        self.assertEqual(self.told(book, (), offers, gentle=True), ("plan", 1, ("enough", ()), ((0, "hurts", course),)))
        self.assertEqual(self.told(book, (), offers[:1], gentle=True), ("none", ((0, "hurts", course),)))
        self.assertEqual(self.told(book, (), (((), 0),) + offers[:1], gentle=True),
                         ("none", ((0, "broken", harm(book, "price", ())[1]), (1, "hurts", course))))

    def test_broken_is_told_ahead_of_hurts(self):
        # By this plan a copy sees another thing, and it is not enough either.
        book = book_with(*CRIES, begins="always")
        told = self.told(book, (), (((CALM,), 1),), gentle=True)
        self.assertEqual([row[:2] for row in told[1]], [(0, "broken")])

    def test_heard_and_gentle(self):
        book = book_with(*CRIES, begins="one")
        self.assertEqual(self.told(book, (), (((CALM,), 1),))[2][0], "heard")
        told = self.told(book, (), (((CALM,), 1), ((QUIET,), 1)), gentle=True)
        self.assertEqual((told[:2], told[2][0], told[3]),
                         (("plan", 1), "heard", ((0, "hurts", ("shop", 0, (MISSED,))),)))

    def test_five_offers(self):
        book = Book(SHOP)
        offers = tuple(((QUIET,) * days, 5 - days) for days in range(5))
        self.assertEqual(self.told(book, (), offers)[:2], ("plan", 4))
        self.assertEqual(raised(cheapest, book, "price", (), offers + offers[:1])[0], "BadOffers")

    def test_too_many_stands(self):
        book = many_stands("always")
        history = ((20, OPEN),)
        offers = (((OPEN,), 1), ((OPEN,) * 6, 2))
        for some in (offers, offers[::-1], offers[1:]):
            self.assertEqual(raised(cheapest, book, "price", history, some), ("TooMany", 300))
            self.assertEqual(raised(shows_cheapest, book, "price", history, some, None), ("TooMany", 300))
        self.assertEqual(self.plain_told(book, history, offers[:1]), ("plan", 0))
        self.assertEqual(raised(cheapest, book, "price", ((40, OPEN),), ()), ("TooMany", 300))

    def plain_told(self, book, history, offers, **named):
        return cheapest(book, "price", history, offers, **named)[:2]

    def test_too_many_rows_of_offers_that_are_looked_at(self):
        # The plan of one day is enough; the empty one has too many rows.
        book = slow_rows("until 0")
        for offers, expected in (((((OPEN,), 1), ((), 2)), ("plan", 0)), ((((OPEN,), 1), ((), 1)), ("plan", 0)),
                                 ((((OPEN,), 1), ((), 0)), ("TooMany", 1500)), ((((), 1), ((OPEN,), 1)), ("TooMany", 1500))):
            self.assertEqual(raised(cheapest, book, "price", (), offers)[:2], expected)
        self.assertIs(shows_cheapest(book, "price", (), (((), 0), ((OPEN,), 1)), ("none", ())), False)

    def test_too_many_rows_of_hurts(self):
        book = many_stands("until 0")
        history = ((30, OPEN),)
        offers = (((SHUT,) * 6, 1), ((SHUT,) * 5, 2))
        self.assertEqual(self.plain_told(book, history, offers), ("plan", 0))
        self.assertEqual(self.raised_gentle(book, history, offers), ("TooMany", 1500))
        self.assertEqual(self.raised_gentle(book, history, offers[1:])[:2], ("plan", 0))
        told = cheapest(book, "price", history, offers)
        self.assertIs(shows_cheapest(book, "price", history, offers, told, gentle=True), True)

    def raised_gentle(self, book, history, offers):
        return raised(lambda: cheapest(book, "price", history, offers, gentle=True))

    def test_hurts_is_not_asked_of_offers_that_are_broken(self):
        # hurts would raise TooMany of the first one.
        more = "\nclient b\n  begins always\n  lives always\n  sleeps 0\n  day\n    " + "\n    ".join(CRIES)
        book = Book(many_stands("until 0").text + more)
        history, plan = ((30, OPEN),), (OPEN,) * 6
        self.assertEqual(raised(hurts, book, "price", history, plan), ("TooMany", 1500))
        told = self.raised_gentle(book, history, ((plan, 1),))
        self.assertEqual((told[0], told[1][0][:2]), ("none", (0, "broken")))

    def test_equal_calls(self):
        book = Book(WEEK)
        offers = (((QUIET,) * 9, 5), ((SHUT, QUIET), 4), ((), 3))
        for gentle in (False, True):
            self.assertEqual(cheapest(book, "price", ((2, OPEN),), offers, gentle=gentle),
                             cheapest(Book(WEEK), "price", ((2, OPEN),), offers, gentle=gentle))
        self.assertEqual(book.text, WEEK)


class ShowsCheapestTest(OrderMixin, unittest.TestCase):
    def shows(self, book, history, offers, value, gentle=False, door="price"):
        told = shows_cheapest(book, door, history, offers, value, gentle=gentle)
        self.assertIs(type(told), bool)
        expected = naive_shows_cheapest(book, door, naive_days(history), offers, gentle, value)
        self.assertEqual(told, bool(expected), value)
        return told

    def test_one_thing_changed(self):
        book = book_with(*CRIES, begins="until 0")
        one = book_with(*CRIES, begins="one", sleeps="1")
        for here, history, offers, gentle in (
            (book, (), (((), 0), ((CALM,), 1), ((QUIET,), 2)), True), (book, (), (((), 0), ((CALM,), 1)), True),
            (book, (), (((), 4), ((CALM,), 4)), False), (one, ((1, HEARD),), (((QUIET,) * 2, 1), ((OPEN,), 0)), True),
        ):
            told = cheapest(here, "price", history, offers, gentle=gentle)
            for value in [told] + changed(told):
                self.shows(here, history, offers, value, gentle)
                self.shows(here, history, offers, value, not gentle)

    def test_other_offers(self):
        book = Book(SHOP)
        offers = (((QUIET,) * 4, 2), ((QUIET,) * 5, 2), ((QUIET,) * 3, 1))
        told = cheapest(book, "price", (), offers)
        self.assertEqual(told[:2], ("plan", 0))
        reasons = told[3]
        for value, expected in (
            (("plan", 0, ("enough", ()), reasons), True), (("plan", 1, ("enough", ()), reasons), False),
            (("plan", 0, ("enough", ()), ()), False), (("plan", 0, ("enough", ()), reasons * 2), False),
            (("plan", False, ("enough", ()), reasons), False), (("plan", 3, ("enough", ()), reasons), False),
            (("plan", -3, ("enough", ()), reasons), False), (("plan", 0, ("enough", ()), list(reasons)), False),
            (("plan", 2, ("broken", reasons[0][2]), ()), False), (("none", reasons), False), (("none", ()), False),
            (("plan", 1, ("enough", ()), reasons + ((0, "broken", reasons[0][2]),)), False),
        ):
            with self.subTest(value=value):
                self.assertIs(self.shows(book, (), offers, value), expected)

    def test_a_reason_may_be_either(self):
        # The plan is not enough, and not gentle either.
        book = book_with(*CRIES)
        offers = (((CALM,), 1),)
        broken, hurt = (0, "broken", ("shop", 1, (MISSED,))), (0, "hurts", ("shop", 0, (MISSED,)))
        for reason in (broken, hurt):
            self.assertTrue(self.shows(book, (), offers, ("none", (reason,)), gentle=True))
        self.assertTrue(self.shows(book, (), offers, ("none", (broken,))))
        self.assertFalse(self.shows(book, (), offers, ("none", (hurt,))))
        # This one is enough: so only hurts shows it; another one is gentle.
        begun = book_with(*CRIES, begins="until 0")
        for gentle in (True, False):
            self.assertIs(self.shows(begun, (), offers, ("none", (hurt,)), gentle=gentle), gentle)
            self.assertFalse(self.shows(begun, (), offers, ("none", (broken,)), gentle=gentle))
        for reason in ((0, "hurts", broken[2]), (0, "broken", hurt[2]), (True, "hurts", hurt[2]), (1, "hurts", hurt[2]),
                       (0, "Hurts", hurt[2]), (0, "hurts"), hurt + (None,), list(hurt), None, (False, "hurts", hurt[2])):
            self.assertFalse(self.shows(book, (), offers, ("none", (reason,)), gentle=True))

    def test_gentle_is_looked_at(self):
        book = book_with(*CRIES, begins="until 0")
        value = ("plan", 0, ("enough", ()), ())
        for plan, gentle, expected in (((CALM,), False, True), ((CALM,), True, False), ((QUIET,), True, True)):
            self.assertIs(self.shows(book, (), ((plan, 1),), value, gentle=gentle), expected)

    def test_tables_of_more_rows(self):
        book = book_with("ask price x", begins="until 0", heads=("cell x 2",))
        offers = (((OPEN,), 1),)
        told = cheapest(book, "price", (), offers)
        rows = told[2][1]
        for table in (rows[::-1], rows + rows):
            self.assertTrue(self.shows(book, (), offers, ("plan", 0, ("enough", table), ())))
        self.assertFalse(self.shows(book, (), offers, ("plan", 0, ("enough", rows[1:]), ())))

    def test_any_value(self):
        book = Book(SHOP)
        offers = (((QUIET,) * 3, 1), ((QUIET,) * 4, 1))
        for gentle in (False, True):
            shows = lambda value: shows_cheapest(book, "price", (), offers, value, gentle=gentle)
            self.assert_none_shown(shows, ("plan", "none"))
        told = cheapest(book, "price", (), offers)
        for value in (told[:-1], told + ((),), list(told), (told,), told[1:], ("Plan",) + told[1:]):
            self.assertIs(shows_cheapest(book, "price", (), offers, value), False)
        self.assertIs(shows_cheapest(book, "price", (), (), ("none", ())), True)
        self.assertIs(shows_cheapest(book, "price", (), (), ("none", [])), False)


class ErrorsTest(OrderMixin, unittest.TestCase):
    OFFERS = [None, True, 0, "", {}, [], [((SHUT,), 1)], ((SHUT,), 1), (((SHUT,), 1), ()), (((SHUT,), 1), None),
              (((SHUT,), 100),), (((SHUT,), -1),), (((SHUT,), True),), (((SHUT,), None),), (((SHUT,), "1"),),
              (((SHUT,), 1, 1),), (((SHUT,),),), ([(SHUT,), 1],), (([SHUT], 1),), ((((SHUT,), 1),),),
              (((SHUT,), 1),) * 6, (((SHUT,) * 13, 1),), (((HEARD,), 1),), ((SHUT, 1),), (((SHUT,), [1]),), Book(SHOP),
              (((SHUT,), 1), ((SHUT,), False)), ((Book(SHOP), 1),), (((SHUT,), (1,)),), [[[[]]]], ((("open", 1), 1),)]
    TRUTHS = [None, 0, 1, "", "True", (), [], {}, (True,), [True], -1, Book(SHOP)]

    def assert_value(self, got, name, value):
        self.assertEqual(got[0], name)
        self.assertIs(got[1], value)

    def test_order(self):
        book = Book(SHOP)
        for function in (lambda *arguments: enough(book, *arguments),
                         lambda *arguments: shows_enough(book, *arguments, ("enough", ()))):
            self.assert_order(function, ["price", ((2, OPEN),), (SHUT,)], ["BadDoor", "BadHistory", None])
        for function in (lambda *arguments: cheapest(book, *arguments),
                         lambda *arguments: shows_cheapest(book, *arguments, ("none", ()))):
            self.assert_order(function, ["price", ((2, OPEN),), (((SHUT,), 1),)], ["BadDoor", "BadHistory", None])

    def test_bad_plans(self):
        for book in (Book(SHOP), many_stands("always")):
            for history in ((), ((40, OPEN),), ((4, QUIET), (1, HEARD))):
                for plan in PLANS:
                    with self.subTest(history=history, plan=plan):
                        self.assert_value(raised(enough, book, "price", history, plan), "BadPlan", plan)
                        self.assert_value(raised(shows_enough, book, "price", history, plan, None), "BadPlan", plan)

    def test_bad_offers(self):
        for book in (Book(SHOP), many_stands("always")):
            for history in ((), ((40, OPEN),), ((4, QUIET), (1, HEARD))):
                for offers in self.OFFERS + [((plan, 1),) for plan in PLANS]:
                    for gentle in (False, True, None, 1):
                        with self.subTest(history=history, offers=offers):
                            got = raised(lambda: cheapest(book, "price", history, offers, gentle=gentle))
                            self.assert_value(got, "BadOffers", offers)
                            got = raised(lambda: shows_cheapest(book, "price", history, offers, None, gentle=gentle))
                            self.assert_value(got, "BadOffers", offers)

    def test_bad_truths(self):
        for book in (Book(SHOP), many_stands("always")):
            for history in ((), ((40, OPEN),), ((4, QUIET), (1, HEARD))):
                for gentle in self.TRUTHS:
                    for offers in ((), (((SHUT,), 1),)):
                        with self.subTest(history=history, gentle=gentle):
                            got = raised(lambda: cheapest(book, "price", history, offers, gentle=gentle))
                            self.assert_value(got, "BadTruth", gentle)
                            got = raised(lambda: shows_cheapest(book, "price", history, offers, None, gentle=gentle))
                            self.assert_value(got, "BadTruth", gentle)

    def test_wrong_doors_go_ahead(self):
        for value in WRONG:
            got = raised(lambda: cheapest(Book(SHOP), value, None, None, gentle=None))
            self.assert_value(got, "BadDoor", value)
            got = raised(lambda: cheapest(Book(SHOP), "price", value, None, gentle=None))
            self.assert_value(got, "BadHistory", value)

    def test_cannot_be(self):
        book = Book(SHOP)
        history = ((4, QUIET), (1, OPEN), (1, HEARD), (2, OPEN))
        self.assertEqual(raised(enough, book, "price", history, (SHUT,)), ("CannotBe", 5))
        self.assertEqual(raised(shows_enough, book, "price", history, (SHUT,), None), ("CannotBe", 5))
        for offers in ((), (((SHUT,), 1),)):
            self.assertEqual(raised(cheapest, book, "price", history, offers), ("CannotBe", 5))
            self.assertEqual(raised(shows_cheapest, book, "price", history, offers, None), ("CannotBe", 5))

    def test_by_name(self):
        book = Book(SHOP)
        history = ((4, QUIET),)
        told = enough(plan=(SHUT,), history=history, door="price", book=book)
        self.assertEqual(told, ("enough", ()))
        self.assertIs(shows_enough(value=told, plan=(SHUT,), history=history, door="price", book=book), True)
        told = cheapest(gentle=True, offers=(((), 3),), history=history, door="price", book=book)
        self.assertEqual(told, ("plan", 0, ("enough", ()), ()))
        self.assertIs(shows_cheapest(gentle=True, value=told, offers=(((), 3),), history=history, door="price",
                                     book=book), True)

    def test_gentle_by_name_alone(self):
        book = Book(SHOP)
        self.assertRaises(TypeError, cheapest, book, "price", (), (), True)
        self.assertRaises(TypeError, shows_cheapest, book, "price", (), (), None, True)


if __name__ == "__main__":
    unittest.main()
