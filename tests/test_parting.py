"""Section 12: two clients, and whether they can be told apart."""

import unittest

from unmissed.books import Book
from unmissed.editing import shut_out
from unmissed.parting import parted, shows_parted
from tests import naive_shut
from tests.chance import changed
from tests.orders import WRONG, OrderMixin
from tests.samples import ODD_VALUES, SHOP, WEEK, raised
from tests.test_fitting import plain

STATES = ("open", "shut", "half")
EYES = ("user", "owner", "both")
MET, MISSED = ((), (0,), True), ((), (0,), False)


def member(name, lines, begins="always", lives="always", sleeps="0", heads=()):
    """The lines of a client."""
    span = ["  one"] if begins == "one" else [f"  begins {begins}", f"  lives {lives}"]
    return [f"client {name}", *span, f"  sleeps {sleeps}", *["  " + row for row in heads], "  day",
            *["    " + line for line in lines]]


def two(one, other, doors=("price 1",), calendars=(), **named):
    """A book with the clients a and b, which have these lines."""
    ahead = [f"calendar {row}" for row in calendars] + [f"door {row}" for row in doors]
    return Book("\n".join(ahead + member("a", one, **named) + member("b", other, **named)))


class PartedTest(unittest.TestCase):
    def told(self, book, state="open", eyes="both", one="a", other="b", door="price"):
        """What parted tells, looked at once more by the naive words."""
        arguments = (book, one, other, door, state, eyes)
        told = parted(*arguments)
        many, table, _ = naive_shut.naive_parted(*arguments)
        if many is None:
            self.assertEqual(told, ("alike", naive_shut.as_table(table)))
        else:
            self.assertEqual((told[0], len(told[2])), ("parted", many))
        self.assertTrue(naive_shut.naive_shows_parted(*arguments, told), told)
        self.assertIs(shows_parted(*arguments, told), True)
        return told

    def words(self, book, state, **named):
        """The first word of what is told for each eyes."""
        return tuple(self.told(book, state, eyes, **named)[0] for eyes in EYES)

    def test_the_same_lines(self):
        book = two(["ask price x", "tell x"], ["ask price x", "tell x"], heads=("cell x 2",), doors=("price 2",))
        rows = tuple((0, plain(x), plain(x)) for x in (0, 1))
        for eyes in EYES:
            self.assertEqual(self.told(book, "open", eyes), ("alike", rows))
            self.assertEqual(self.told(book, "shut", eyes), ("alike", rows[:1]))

    def test_a_client_and_itself(self):
        for text in (SHOP, WEEK):
            book = Book(text)
            for state in STATES:
                for eyes in EYES:
                    told = parted(book, "shop", "shop", "price", state, eyes)
                    self.assertEqual(told[0], "alike")
                    self.assertEqual([row for row in told[1] if row[1] != row[2]], [])

    def test_eyes(self):
        alike, apart = "alike", "parted"
        for one, other, expected in (
            (["tell 1"], ["tell 2"], (apart, alike, apart)), (["ask price"], ["rest"], (alike, apart, apart)),
            (["cry"], ["rest"], (apart, apart, apart)), (["rest"], ["rest"], (alike, alike, alike)),
            (["tell 1", "tell 2"], ["tell 2", "tell 1"], (apart, alike, apart)), (["cry"], ["cry", "cry"], (apart, alike, apart)),
            (["tell 1"], ["tell 1", "tell 1"], (apart, alike, apart)), (["ask price"], ["ask price", "ask price"], (alike,) * 3),
            (["cry", "tell 0"], ["tell 0", "cry"], (apart, alike, apart)),
        ):
            with self.subTest(one=one, other=other):
                self.assertEqual(self.words(two(one, other), "open"), expected)
                self.assertEqual(self.words(two(other, one), "open"), expected)

    def test_states(self):
        book = two(["ask price", "else", "  cry"], ["ask price"])
        self.assertEqual([self.told(book, state)[0] for state in STATES], ["alike", "parted", "parted"])
        self.assertEqual(self.told(book, "half"), ("parted", 0, (MISSED,)))
        book = two(["ask price x", "else", "  set x 1", "if x", "  cry"], ["ask price"], heads=("cell x 2",),
                   doors=("price 2",))
        self.assertEqual(self.told(book, "open"), ("parted", 0, (((), (1,), True),)))
        one = two(["ask price", "else", "  set x 0"], ["ask price", "else", "  set x 1"], heads=("cell x 2",))
        self.assertEqual([len(self.told(one, state)[1]) for state in STATES], [1, 2, 2])

    def test_the_day_on_which_they_part(self):
        lines = ["if same(x, 2)", "  ask price", "set x more(x)"]
        book = two(lines, ["set x more(x)"], heads=("cell x 4",))
        self.assertEqual(self.told(book, "open", "owner"), ("parted", 0, (MET,) * 3))
        self.assertEqual(self.told(book, "shut", "both"), ("parted", 0, (MISSED,) * 3))
        self.assertEqual(self.told(book, "open", "user")[0], "alike")
        asleep = two(lines, ["set x more(x)"], heads=("cell x 4",), sleeps="3")
        self.assertEqual(self.told(asleep, "open", "owner"), ("parted", 0, (MET,) * 3))

    def test_any_day_of_beginning(self):
        book = two(["if same(k, 3)", "  cry"], ["rest"], calendars=("k 5",))
        self.assertEqual(self.told(book), ("parted", 3, (MET,)))
        never = two(["if same(k, 3)", "  rest"], ["rest"], calendars=("k 5",), lives="2")
        rows = tuple((phase, ((), 0, (), age), ((), 0, (), age)) for phase in range(5) for age in range(2))
        self.assertEqual(self.told(never), ("alike", rows))
        later = two(["if same(k, 3)", "  set x 1", "if and(x, same(k, 0))", "  cry"], ["rest"], calendars=("k 5",),
                    heads=("cell x 2",))
        self.assertEqual(self.told(later), ("parted", 3, (MET,) * 3))

    def test_begins_do_not_matter(self):
        lines = [*member("a", ["rest"], begins="until 9"), *member("b", ["rest"]), *member("c", ["rest"], begins="one")]
        book = Book("\n".join(["door price 1"] + lines))
        for one in "abc":
            for other in "abc":
                self.assertEqual(self.told(book, one=one, other=other), ("alike", ((0, plain(), plain()),)))

    def test_a_side_is_gone(self):
        book = two(["stop"], ["rest"], heads=("cell x 2",))
        self.assertEqual(self.told(book), ("alike", ((0, plain(0), plain(0)), (0, None, plain(0)))))
        self.assertEqual(self.told(book, one="b", other="a"), ("alike", ((0, plain(0), plain(0)), (0, plain(0), None))))
        for word, expected in (("tell 1", ("parted", "alike", "parted")), ("ask price", ("alike", "parted", "parted")),
                               ("cry", ("parted",) * 3)):
            book = two(["if x", "  rest", "stop"], ["if x", "  " + word, "set x 1"], heads=("cell x 2",))
            self.assertEqual(self.words(book, "half"), expected)
            self.assertEqual(self.words(book, "shut", one="b", other="a"), expected)

    def test_both_sides_are_gone(self):
        book = two(["stop", "cry"], ["stop"])
        self.assertEqual(self.told(book), ("alike", ((0, plain(), plain()),)))
        book = two(["if x", "  stop", "set x 1"], ["stop"], heads=("cell x 2",))
        self.assertEqual(self.told(book), ("alike", ((0, plain(0), plain(0)), (0, plain(1), None))))

    def test_who_is_gone_stands_behind_all_stands(self):
        book = two(["if u", "  stop"], ["rest"], heads=("cell x 2", "user u 2"))
        stand = ((0,), 0, (0,), 0)
        self.assertEqual(self.told(book), ("alike", ((0, stand, stand), (0, None, stand))))
        book = two(["if u", "  stop"], ["set x 1"], heads=("cell x 2", "user u 2"))
        told = self.told(book, one="b", other="a")[1]
        self.assertEqual(told, ((0, stand, stand), (0, ((1,), 0, (0,), 0), stand), (0, ((1,), 0, (0,), 0), None)))

    def test_lives_end(self):
        book = two(["if same(x, 2)", "  cry", "set x more(x)"], ["rest"], heads=("cell x 3",), lives="2")
        self.assertEqual(self.told(book)[0], "alike")
        self.assertEqual(self.told(Book(book.text.replace("lives 2", "lives 3")))[0], "parted")

    def test_turns_with_the_answers_of_all_doors_that_one_asks(self):
        doors = ("price 2", "stock 3")
        book = two(["ask stock x", "tell x"], ["ask price x", "tell x"], heads=("cell x 3",), doors=doors)
        told = self.told(book, eyes="user")
        self.assertNotEqual(told[2][0][1][0], told[2][0][1][1])
        for first, second, answers in ((["ask stock x", "tell x"], ["rest"], [(0, n) for n in range(3)]),
                                       (["rest"], ["ask price x", "tell x"], [(n, 0) for n in range(2)])):
            book = two(first, second, heads=("cell x 3",), doors=doors)
            told = self.told(book, eyes="user")
            self.assertIn(told[2][0][1], answers)
            value = ("parted", 0, (((), (1, 1), True),))
            self.assertIs(shows_parted(book, "a", "b", "price", "open", "user", value), False)
        both = two(["ask stock x", "ask price"], ["ask stock x", "ask price"], heads=("cell x 3",), doors=doors)
        self.assertEqual(self.told(both)[0], "alike")

    def test_a_client_passes_by_answers_of_other_doors(self):
        # One asks price, the other stock; both then hold a worth that is not seen.
        doors = ("price 2", "stock 2")
        book = two(["ask price x"], ["ask stock x"], heads=("cell x 2",), doors=doors)
        self.assertEqual(len(self.told(book, eyes="user")[1]), 4)
        self.assertEqual(self.told(book, eyes="owner")[0], "parted")
        self.assertEqual(self.told(book, eyes="owner", door="stock")[0], "parted")

    def test_doors(self):
        book = two(["ask price"], ["ask stock"], doors=("price 1", "stock 1"))
        for state in STATES:
            for door in ("price", "stock"):
                self.assertEqual(self.words(book, state, door=door), ("alike", "parted", "parted"))
        cries = two(["ask price", "else", "  cry", "ask stock"], ["ask price", "ask stock"], doors=("price 1", "stock 1"))
        self.assertEqual([self.told(cries, "shut", door=door)[0] for door in ("price", "stock")], ["parted", "alike"])

    def test_users(self):
        book = two(["if press", "  cry"], ["if pull", "  cry"], heads=("user press 2", "user pull 2"))
        told = self.told(book)
        self.assertNotEqual(told[2][0][0][0], told[2][0][0][1])
        within = two(["if x", "  cry", "if press", "  set x 0", "else", "  set x 1"], ["if x", "  cry", "set x 0"],
                     heads=("cell x 2", "user press 2 within 1"))
        self.assertEqual(self.told(within)[0], "alike")
        free = Book(within.text.replace("within 1", "within 2"))
        self.assertEqual(len(self.told(free)[2]), 2)

    def test_users_of_other_names(self):
        lines = [*member("a", ["if u", "  cry"], heads=("user u 2",)), *member("b", ["if w", "  cry"], heads=("user w 2",))]
        self.assertEqual(self.told(Book("\n".join(["door price 1"] + lines)))[0], "alike")

    def test_who_is_shut_out(self):
        for lines, heads in ((["ask price x", "else", "  cry", "tell x"], ("cell x 2",)),
                             (["if u", "  ask price", "  else", "    stop", "tell u"], ("user u 2",))):
            book = two(lines, lines, heads=heads, sleeps="1")
            out = shut_out(book, "b", "price")
            told = self.told(out, "shut", "user")
            self.assertEqual(told[0], "alike")
            self.assertEqual([row for row in told[1] if row[1] != row[2]], [])
            self.assertEqual(self.told(out, "shut", "owner")[0], "parted")

    def test_clients_turned(self):
        book = two(["ask price", "else", "  stop"], ["ask price x"], heads=("cell x 2",), doors=("price 2",), sleeps="1")
        for state in STATES:
            for eyes in EYES:
                one, other = self.told(book, state, eyes), self.told(book, state, eyes, one="b", other="a")
                self.assertEqual((one[0], len(one[-1])), (other[0], len(other[-1])))
                if one[0] == "alike":
                    self.assertEqual({row[:1] + row[:0:-1] for row in one[1]}, set(other[1]))

    def test_equal_calls(self):
        book = two(["ask price x", "if x", "  cry"], ["ask price"], heads=("cell x 2",), doors=("price 2",))
        text = book.text
        for state in STATES:
            for eyes in EYES:
                self.assertEqual(parted(book, "a", "b", "price", state, eyes),
                                 parted(Book(text), "a", "b", "price", state, eyes))
        self.assertEqual(book.text, text)


def wide(cells, more=0):
    """Two clients with so many pairs of cells in 30 phases, and perhaps apart on a later day."""
    one = ["if less(x, 29)", "  set x more(x)", "if press", "  ask stock y"]
    if more:
        one += [f"if same(x, {more})", "  cry"]
    return two(one, ["if press", "  ask stock y", "if less(x, 29)", "  set x more(x)"],
               heads=(f"cell x {cells}", "cell y 2", "user press 2"), doors=("price 1", "stock 2"),
               calendars=("five 5", "six 6"))


class TooManyTest(unittest.TestCase):
    def counts(self, book):
        return naive_shut.naive_parted(book, "a", "b", "price", "open", "both")

    def test_as_many_as_there_may_be(self):
        # Both have the same cells at any time: so there are 2 times 25 pairs in each of 30 phases.
        lines = ["if press", "  set x 1", "if pull", "  set y more(y)"]
        for cells, expected in ((25, "alike"), (26, "TooMany")):
            book = two(lines, lines, heads=("cell x 2", f"cell y {cells}", "user press 2", "user pull 2"),
                       calendars=("five 5", "six 6"))
            self.assertEqual(self.counts(book)[2][-1], 60 * cells)
            got = raised(parted, book, "a", "b", "price", "shut", "both")
            self.assertEqual((got[0], got[1] if cells > 25 else len(got[1])), (expected, 1500))

    def test_phases_are_begun_on_all_at_once(self):
        for cells, expected in ((25, "alike"), (26, "TooMany")):
            book = wide(cells)
            self.assertEqual(self.counts(book)[2], [30 * (2 * day + 1) for day in range(cells)])
            self.assertEqual(raised(parted, book, "a", "b", "price", "open", "both")[0], expected)

    def test_it_is_raised_ahead_of_looks_at_the_day(self):
        many = self.counts(wide(30))[2]
        day = [count > 1500 for count in many].index(True)
        for late in range(day - 1, day + 3):
            got = raised(parted, wide(30, late), "a", "b", "price", "open", "both")
            # So many turns go up to the day with the number late - 1.
            if late - 1 < day:
                self.assertEqual((got[0], len(got[2])), ("parted", late))
            else:
                self.assertEqual(got, ("TooMany", 1500))

    def test_shows_does_not_raise_it(self):
        book = wide(30, 29)
        turn = ((0,), (0, 0), True)
        self.assertEqual(raised(parted, book, "a", "b", "price", "open", "both"), ("TooMany", 1500))
        for many in range(27, 31):
            got = shows_parted(book, "a", "b", "price", "open", "both", ("parted", 7, (turn,) * many))
            self.assertIs(got, many == 29)
        self.assertIs(shows_parted(wide(26), "a", "b", "price", "open", "both", ("alike", ())), False)

    def test_shows_takes_tables_of_more_rows(self):
        book = wide(30)
        rows = tuple((phase, ((x, y), 0, (0,), 0), ((x, y), 0, (0,), 0)) for phase in range(30) for x in range(30)
                     for y in range(2))
        self.assertEqual(raised(parted, book, "a", "b", "price", "open", "both"), ("TooMany", 1500))
        self.assertIs(shows_parted(book, "a", "b", "price", "open", "both", ("alike", rows)), True)
        self.assertIs(shows_parted(book, "a", "b", "price", "open", "both", ("alike", rows[1:])), False)


class ShowsPartedTest(OrderMixin, unittest.TestCase):
    def shows(self, book, state, eyes, value, one="a", other="b", door="price"):
        told = shows_parted(book, one, other, door, state, eyes, value)
        self.assertIs(type(told), bool)
        expected = naive_shut.naive_shows_parted(book, one, other, door, state, eyes, value)
        self.assertEqual(told, bool(expected), value)
        return told

    def test_one_thing_changed(self):
        book = two(["ask price x", "else", "  stop"], ["ask price x", "else", "  set x 1", "if x", "  cry"],
                   heads=("cell x 2", "user u 2 within 2"), calendars=("k 2",), sleeps="1", doors=("price 2",), lives="3")
        alike = two(["ask price", "else", "  stop"], ["ask price"], calendars=("k 2",), sleeps="1", lives="2")
        for here in (book, alike):
            for state in STATES:
                told = parted(here, "a", "b", "price", state, "user")
                self.assertTrue(self.shows(here, state, "user", told))
                for value in changed(told):
                    self.shows(here, state, "user", value)

    def test_tables_in_any_sequence(self):
        book = two(["ask price x", "else", "  stop"], ["ask price x"], heads=("cell x 2",), doors=("price 2",))
        rows = parted(book, "a", "b", "price", "half", "user")[1]
        for table in (rows, rows[::-1], rows + rows, rows + rows[1:2], rows[1:] + rows[:1]):
            self.assertTrue(self.shows(book, "half", "user", ("alike", table)))
        for at in range(len(rows)):
            self.assertFalse(self.shows(book, "half", "user", ("alike", rows[:at] + rows[at + 1:])))

    def test_tables_with_more_rows(self):
        book = two(["if x", "  cry"], ["if less(x, 2)", "  if x", "    cry"], heads=("cell x 4",))
        rows = parted(book, "a", "b", "price", "open", "both")[1]
        self.assertEqual(rows, ((0, plain(0), plain(0)),))
        for one, other, expected in (
            (plain(1), plain(1), True), (plain(0), plain(2), True), (plain(0), plain(3), True), (plain(2), plain(1), True),
            (plain(2), plain(2), False), (plain(0), plain(1), False), (plain(1), None, False), (None, plain(1), False),
            (None, plain(2), True), (plain(0), None, True), (None, None, False),
        ):
            with self.subTest(one=one, other=other):
                self.assertIs(self.shows(book, "open", "both", ("alike", rows + ((0, one, other),))), expected)

    def test_rows_of_the_right_form(self):
        lines = [*member("a", ["rest"], lives="2", sleeps="1", heads=("cell x 2", "user u 2 within 2")),
                 *member("b", ["rest"], lives="2", sleeps="1", heads=("user u 2 within 2",))]
        book = Book("\n".join(["calendar k 2", "door price 1"] + lines))
        rows = parted(book, "a", "b", "price", "open", "both")[1]
        one, other = ((1,), 0, (0,), 1), ((), 0, (0,), 1)
        for row, expected in (
            ((0, one, other), True), ((1, one, None), True), ((1, None, other), True), ((0, other, one), False),
            ((0, one, one), False), ((2, one, other), False), ((-1, one, other), False), ((True, one, other), False),
            ((0, one, ((), 1, (0,), 1)), False), ((0, one, ((), 0, (1,), 1)), False), ((0, one, ((), 0, (0,), 0)), False),
            ((0, ((2,), 0, (0,), 1), other), False), ((0, ((True,), 0, (0,), 1), other), False), ((0, one), False),
            ((0, one, other, other), False), ([0, one, other], False), ((0, None, one), False), ((0, other, None), False),
            ((), False), (None, False), ((0, ((1,), False, (0,), 1), other), False),
        ):
            with self.subTest(row=row):
                self.assertIs(self.shows(book, "open", "both", ("alike", rows + (row,))), expected)
        self.assertFalse(self.shows(book, "open", "both", ("alike", list(rows))))

    def test_rows_come_with_the_next_phase(self):
        book = two(["rest"], ["rest"], calendars=("k 3",))
        rows = tuple((phase, plain(), plain()) for phase in range(3))
        self.assertTrue(self.shows(book, "open", "both", ("alike", rows)))
        for at in range(3):
            self.assertFalse(self.shows(book, "open", "both", ("alike", rows[:at] + rows[at + 1:])))

    def test_turns_of_whatever_number(self):
        book = two(["if same(k, 1)", "  ask price", "  else", "    stop", "tell 1"], ["ask price", "tell 1"],
                   calendars=("k 2",), sleeps="always")
        for state in STATES:
            for eyes in EYES:
                for begin in (-1, 0, 1, 2, True, None):
                    for met in ((MET,), (MISSED,), (MET, MET), (MISSED, MISSED), ((), MET), ((), MISSED), (MISSED, (), MISSED),
                                (MET, (), MISSED), ((), (), MISSED), ((), (), (), MISSED), (), [MET], None, (MET, None),
                                (MET, MISSED, MET), (MISSED, MISSED, MISSED), ((),)):
                        self.shows(book, state, eyes, ("parted", begin, met))
        self.assertTrue(self.shows(book, "half", "user", ("parted", 1, (MISSED,))))
        self.assertTrue(self.shows(book, "half", "user", ("parted", 1, ((),) * 12 + (MISSED,))))
        self.assertFalse(self.shows(book, "half", "user", ("parted", 0, (MISSED,))))
        self.assertFalse(self.shows(book, "open", "user", ("parted", 1, (MISSED,))))

    def test_turns_stand_as_long_as_one_side_is_there(self):
        book = two(["stop"], ["if x", "  stop", "set x 1"], heads=("cell x 2",))
        for many in range(1, 5):
            self.assertFalse(self.shows(book, "half", "both", ("parted", 0, (MET,) * many)))

    def test_any_value(self):
        for other in (["rest"], ["cry"]):
            book = two(["rest"], other)
            told = parted(book, "a", "b", "price", "open", "both")
            shows = lambda value: shows_parted(book, "a", "b", "price", "open", "both", value)
            self.assert_none_shown(shows, ("alike", "parted"))
            for value in (told[:-1], told + ((),), list(told), (told,), told[1:], ("Alike",) + told[1:], told[:1]):
                self.assertIs(shows(value), False)


class ErrorsTest(OrderMixin, unittest.TestCase):
    def right(self):
        return two(["rest"], ["cry"]), ["a", "b", "price", "open", "both"]

    def test_order(self):
        book, right = self.right()
        wrong = [value for value in WRONG if value != "open"] + ["c", "A", "b ", "Open", "USER", ("a",), ["both"]]
        for function in (lambda *arguments: parted(book, *arguments),
                         lambda *arguments: shows_parted(book, *arguments, ("alike", ()))):
            self.assert_order(function, right, ["NoClient", "NoClient", "BadDoor", "BadState", "BadEyes"], wrong)

    def test_words_in_other_places(self):
        book, right = self.right()
        for at, name, words in ((2, "BadDoor", "abc"), (3, "BadState", ("user", "owner", "both", "none", "closed")),
                                (4, "BadEyes", ("open", "shut", "half", "users", "*"))):
            for word in words:
                self.assertEqual(raised(parted, book, *right[:at], word, *right[at + 1:]), (name, word))

    def test_unlike_clients(self):
        plain_one = dict(heads=("user u 2", "user w 3 within 2"), sleeps="1", lives="3")
        for other in (dict(heads=("user u 2",)), dict(heads=()), dict(heads=("user w 3 within 2", "user u 2")),
                      dict(heads=("user u 2 within 2", "user w 3 within 2")), dict(heads=("user u 2", "user w 3 within 3")),
                      dict(heads=("user u 2", "user w 3")), dict(heads=("user u 2", "user w 2 within 2")), dict(sleeps="2"),
                      dict(sleeps="0"), dict(sleeps="always"), dict(lives="4"), dict(lives="always"), dict(begins="one")):
            lines = [*member("a", ["rest"], **plain_one), *member("b", ["rest"], **{**plain_one, **other})]
            book = Book("\n".join(["door price 1"] + lines))
            for one, two_ in (("a", "b"), ("b", "a")):
                with self.subTest(other=other):
                    for door, state, eyes in (("price", "open", "both"), (None, None, None), ("stock", "Open", "all")):
                        self.assertEqual(raised(parted, book, one, two_, door, state, eyes), ("UnlikeClients", (one, two_)))
                        self.assertEqual(raised(shows_parted, book, one, two_, door, state, eyes, None),
                                         ("UnlikeClients", (one, two_)))
            self.assertEqual(raised(parted, book, "a", "c", "price", "open", "both"), ("NoClient", "c"))

    def test_like_clients(self):
        plain_one = dict(heads=("user u 2", "user w 3 within 2"), sleeps="1")
        for other in (dict(heads=("user w 2", "user u 3 within 2")), dict(begins="until 4"), dict(begins="one"),
                      dict(heads=("cell x 2", "user u 2", "user w 3 within 2"))):
            lines = [*member("a", ["rest"], **plain_one), *member("b", ["rest"], **{**plain_one, **other})]
            book = Book("\n".join(["door price 1"] + lines))
            self.assertEqual(parted(book, "a", "b", "price", "open", "both")[0], "alike")
            self.assertEqual(parted(book, "b", "a", "price", "open", "both")[0], "alike")

    def test_too_many_comes_last(self):
        book = wide(30)
        for value in ODD_VALUES:
            self.assertEqual(raised(parted, book, "a", "b", "price", "open", value)[0], "BadEyes")
            self.assertEqual(raised(parted, book, "a", "b", "price", value, "both")[0], "BadState")

    def test_by_name(self):
        book, _ = self.right()
        told = parted(eyes="owner", state="open", door="price", other="a", one="b", book=book)
        self.assertEqual(told, ("parted", 0, (MET,)))
        self.assertIs(shows_parted(value=told, eyes="owner", state="open", door="price", other="a", one="b", book=book),
                      True)


if __name__ == "__main__":
    unittest.main()
