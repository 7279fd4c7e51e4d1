"""Section 5: stands, turns, what happens by them, and lives."""

import unittest

from unmissed.books import Book
from unmissed.days import first_stand, happens, lived, turns
from tests.samples import FULL, ODD_VALUES, SHOP, WEEK, book_with, raised

PAIR = ("price 2", "stock 3")


def done(*lines, cells=None, choices=(), answers=(0,), is_met=True, day=0, door="price", **heads):
    """(cells behind, seen, asked, cried) of a waking day with these lines."""
    book = book_with(*lines, **heads)
    stand = first_stand(book, "shop")
    if cells is not None:
        stand = (cells,) + stand[1:]
    behind, *told = happens(book, door, "shop", day, stand, (choices, answers, is_met))
    return (None if behind is None else behind[0], *told)


def worth(expression, **heads):
    return done(f"tell {expression}", **heads)[1][0]


class ExampleTest(unittest.TestCase):
    def test_the_examples_of_section_5(self):
        book = Book(SHOP)
        first = ((0,), 0, (), 0)
        self.assertEqual(first_stand(book, "shop"), first)
        self.assertEqual(turns(book, "price", "shop", first, "half"),
                         (((), (0,), False), ((), (0,), True), ((), (1,), False), ((), (1,), True)))
        self.assertEqual(happens(book, "price", "shop", 5, first, ((), (1,), True)),
                         (((1,), 0, (), 0), (1,), True, False))
        life = ("shop", 2, (((), (1,), True), ((), (0,), False)))
        self.assertEqual(lived(book, "price", life)[1], (((1,), 0, (), 0), ("cry", 1), True, True))


class FirstStandTest(unittest.TestCase):
    def test_all_is_nothing_at_first(self):
        book = Book(FULL)
        self.assertEqual(first_stand(book, "a"), ((0, 0), 0, (0, 0), 0))
        self.assertEqual(first_stand(client="b", book=book), ((), 0, (), 0))
        self.assertEqual(first_stand(book, "pricewar"), ((0, 0), 0, (), 0))
        self.assertEqual(first_stand(Book(WEEK), "shop"), ((0, 0), 0, (0,), 0))

    def test_no_client(self):
        for value in ODD_VALUES + ["price", "a", 0, (), ("shop",)]:
            with self.subTest(value=value):
                name, told = raised(first_stand, Book(SHOP), value)
                self.assertEqual(name, "NoClient")
                self.assertIs(told, value)


class TurnsTest(unittest.TestCase):
    def told(self, book, stand, state="half", door="price"):
        return turns(book, door, "shop", stand, state)

    def test_states(self):
        book = book_with("rest")
        stand = ((), 0, (), 0)
        self.assertEqual(self.told(book, stand, "open"), (((), (0,), True),))
        self.assertEqual(self.told(book, stand, "shut"), (((), (0,), False),))
        self.assertEqual(self.told(book, stand, "half"), (((), (0,), False), ((), (0,), True)))

    def test_sleep(self):
        awake = (((), (0,), True),)
        for most in (0, 1, 2, 3):
            book = book_with("rest", sleeps=str(most))
            for tired in range(most + 1):
                expected = ((),) + awake if tired < most else awake
                for state in ("open", "shut", "half"):
                    self.assertEqual(self.told(book, ((), tired, (), 0), state)[0] == (), tired < most)
                self.assertEqual(self.told(book, ((), tired, (), 0), "open"), expected)
        self.assertEqual(self.told(book_with("rest", sleeps="always"), ((), 0, (), 0), "open"), ((),) + awake)

    def test_choices(self):
        book = book_with("rest", heads=("user a 2", "user b 3"))
        pairs = [turn[0] for turn in self.told(book, ((), 0, (0, 0), 0), "shut")]
        self.assertEqual(pairs, [(0, 0), (0, 1), (0, 2), (1, 0), (1, 1), (1, 2)])

    def test_within(self):
        for many in (1, 2, 3, 4):
            book = book_with("rest", heads=(f"user a 3 within {many}",))
            for lack in range(many):
                found = [turn[0] for turn in self.told(book, ((), 0, (lack,), 0), "open")]
                expected = [(1,), (2,)] if lack == many - 1 else [(0,), (1,), (2,)]
                self.assertEqual(found, expected)
        book = book_with("rest", heads=("user a 2 within 2", "user b 2 within 3"))
        for lacks, expected in (((0, 0), 4), ((1, 1), 2), ((0, 2), 2), ((1, 2), 1)):
            self.assertEqual(len(self.told(book, ((), 0, lacks, 0), "open")), expected)

    def test_answers_of_each_door_of_the_book(self):
        stand = ((), 0, (), 0)
        for lines, expected in (
            (("ask stock",), [(0, 0), (0, 1), (0, 2)]),
            (("ask price",), [(0, 0), (1, 0)]),
            (("rest",), [(0, 0)]),
            (("ask price", "else", "  ask stock"), [(a, b) for a in (0, 1) for b in (0, 1, 2)]),
        ):
            for door in ("price", "stock"):
                told = self.told(book_with(*lines, doors=PAIR), stand, "shut", door)
                self.assertEqual(told, tuple(((), answers, False) for answers in expected))
        self.assertEqual(self.told(book_with("ask price", doors=("price 1",)), stand, "open"), (((), (0,), True),))

    def test_they_ascend(self):
        book = book_with("ask price", "ask stock", sleeps="1", doors=PAIR, heads=("user a 3", "user b 2 within 2"))
        for state, many in (("open", 1), ("half", 2)):
            found = self.told(book, ((), 0, (0, 0), 0), state)
            self.assertIs(type(found), tuple)
            self.assertEqual(len(found), 1 + 3 * 2 * 2 * 3 * many)
            self.assertEqual(found, tuple(sorted(set(found))))
            self.assertIs(type(found[-1][2]), bool)

    def test_by_name(self):
        book = book_with("rest")
        found = turns(state="shut", stand=((), 0, (), 0), client="shop", door="price", book=book)
        self.assertEqual(found, (((), (0,), False),))

    def test_errors_in_their_order(self):
        book, stand = Book(SHOP), ((0,), 0, (), 0)
        rows = [("price", "BadDoor"), ("shop", "NoClient"), (stand, "BadStand"), ("half", "BadState")]
        right = [value for value, _ in rows]
        for at, (_, name) in enumerate(rows):
            for value in ODD_VALUES + [1, (), "OPEN", ("price",)]:
                arguments = right[:at] + [value] + [value] * (3 - at)
                with self.subTest(at=at, value=value):
                    got = raised(turns, book, *arguments)
                    self.assertEqual(got[0], name)
                    self.assertIs(got[1], value)
                    self.assertEqual(raised(turns, book, *right[:at], value, *right[at + 1:])[0], name)


class BadStandTest(unittest.TestCase):
    def assert_stand(self, book, value, is_right=True):
        for call in (lambda: turns(book, "price", "shop", value, "half"),
                     lambda: happens(book, "price", "shop", 0, value, None)):
            got = raised(call)
            with self.subTest(value=value):
                if not is_right:
                    self.assertEqual(got[0], "BadStand")
                    self.assertIs(got[1], value)
                else:
                    self.assertNotEqual(got[0], "BadStand")

    def test_forms(self):
        book = book_with("rest", begins="until 3", lives="4", sleeps="2",
                         heads=("cell x 3", "cell y 2", "user a 2 within 3", "user b 3"))
        right = [((x, y), tired, (lack, 0), age) for x in range(3) for y in range(2) for tired in range(3)
                 for lack in range(3) for age in range(4)]
        for stand in right:
            self.assert_stand(book, stand)
        stand = ((1, 1), 1, (1, 0), 1)
        self.assert_stand(book, stand)
        wrong = [((3, 1), 1, (1, 0), 1), ((1, 2), 1, (1, 0), 1), ((1, 1), 3, (1, 0), 1), ((1, 1), 1, (3, 0), 1),
                 ((1, 1), 1, (1, 1), 1), ((1, 1), 1, (1, 0), 4), ((1, -1), 1, (1, 0), 1), ((1, 1), -1, (1, 0), 1),
                 ((1, 1), 1, (-1, 0), 1), ((1, 1), 1, (1, -1), 1), ((1, 1), 1, (1, 0), -1)]
        wrong += [((1,), 1, (1, 0), 1), ((1, 1, 0), 1, (1, 0), 1), ((1, 1), 1, (1,), 1), ((1, 1), 1, (1, 0, 0), 1),
                  ((), 1, (1, 0), 1), ((1, 1), 1, (1, 0)), ((1, 1), 1, (1, 0), 1, 0), (), stand[0]]
        wrong += [([1, 1], 1, (1, 0), 1), ((1, 1), 1, [1, 0], 1), list(stand), ((True, 1), 1, (1, 0), 1),
                  ((1, 1), True, (1, 0), 1), ((1, 1), 1, (1, False), 1), ((1, 1), 1, (True, 0), 1),
                  ((1, 1), 1, (1, 0), True), (None, 1, (1, 0), 1), ((1, 1), None, (1, 0), 1), ((1, 1), 1, None, 1),
                  ((1, 1), 1, (1, 0), None), (("1", 1), 1, (1, 0), 1), ((1, (1,)), 1, (1, 0), 1), (11, 1, 10, 1)]
        for stand in wrong + ODD_VALUES:
            self.assert_stand(book, stand, False)

    def test_always(self):
        book = book_with("rest", sleeps="always", heads=("user a 2",))
        self.assert_stand(book, ((), 0, (0,), 0))
        for stand in (((), 1, (0,), 0), ((), 0, (1,), 0), ((), 0, (0,), 1), ((0,), 0, (0,), 0)):
            self.assert_stand(book, stand, False)
        for begins in ("one", "until 0"):
            book = book_with("rest", sleeps="0", begins=begins, heads=("user a 2 within 1",))
            self.assert_stand(book, ((), 0, (0,), 0))
            for stand in (((), 1, (0,), 0), ((), 0, (1,), 0), ((), 0, (0,), 1)):
                self.assert_stand(book, stand, False)


class StatementTest(unittest.TestCase):
    """What is done by each statement, and what an expression is worth."""

    def test_figures_and_functions(self):
        for expression, expected in (
            ("0", 0), ("30", 30), ("same(2, 2)", 1), ("same(2, 3)", 0), ("less(1, 2)", 1), ("less(2, 2)", 0),
            ("less(3, 2)", 0), ("and(2, 3)", 1), ("and(0, 3)", 0), ("and(3, 0)", 0), ("or(0, 0)", 0), ("or(2, 0)", 1),
            ("or(0, 2)", 1), ("or(2, 3)", 1), ("not(0)", 1), ("not(2)", 0), ("more(30)", 31), ("more(more(30))", 32),
            ("fewer(3)", 2), ("fewer(1)", 0), ("fewer(0)", 0), ("more(fewer(0))", 1),
            ("and(not(0), or(less(1, 2), 0))", 1), ("same(more(1), fewer(3))", 1),
        ):
            with self.subTest(expression):
                told = worth(expression)
                self.assertEqual(told, expected)
                self.assertIs(type(told), int)

    def test_names(self):
        heads = ("cell x 5", "cell y 6", "user a 3", "user b 2")
        rows = {"calendars": ("odd 2", "week 7"), "heads": heads, "cells": (3, 4), "choices": (2, 1), "day": 12}
        for name, expected in (("x", 3), ("y", 4), ("a", 2), ("b", 1), ("odd", 0), ("week", 5), ("less(x, y)", 1),
                               ("same(a, odd)", 0), ("more(week)", 6)):
            self.assertEqual(worth(name, **rows), expected)
        for day in list(range(15)) + [10 ** 17]:
            rows["day"] = day
            self.assertEqual([worth("odd", **rows), worth("week", **rows)], [day % 2, day % 7])

    def test_set(self):
        heads = ("cell x 3", "cell y 20")
        self.assertEqual(done("set x 1", heads=heads), ((1, 0), (), False, False))
        self.assertEqual(done("set x 2", heads=heads)[0], (2, 0))
        self.assertEqual(done("set x 3", heads=heads)[0], (2, 0))
        self.assertEqual(done("set y 30", heads=heads)[0], (0, 19))
        self.assertEqual(done("set x 30", heads=("cell x 30",))[0], (29,))
        self.assertEqual(done("set y x", "set x more(y)", heads=heads, cells=(1, 5))[0], (2, 1))
        self.assertEqual(done("set x 0", heads=heads, cells=(2, 7))[0], (0, 7))

    def test_tell_cry_and_rest(self):
        self.assertEqual(done("tell 4"), ((), (4,), False, False))
        self.assertEqual(done("cry"), ((), ("cry",), False, True))
        self.assertEqual(done("rest"), ((), (), False, False))
        self.assertEqual(done("tell 4", "cry", "tell 0", "rest", "cry")[1], (4, "cry", 0, "cry"))

    def test_stop(self):
        self.assertEqual(done("tell 1", "stop", "tell 2"), (None, (1,), False, False))
        self.assertEqual(done("if 1", "  stop", "  cry", "ask price"), (None, (), False, False))
        self.assertEqual(done("repeat 3", "  tell 1", "  stop", "cry")[:2], (None, (1,)))
        self.assertEqual(done("ask price", "else", "  stop", "cry", is_met=False), (None, (), True, False))
        self.assertEqual(done("if 0", "  stop", "cry"), ((), ("cry",), False, True))
        self.assertEqual(done("cry", "stop"), (None, ("cry",), False, True))

    def test_if(self):
        lines = ("if x", "  tell 1", "  tell 2", "else", "  tell 3", "  tell 4", "tell 5")
        for cell, expected in ((0, (3, 4, 5)), (1, (1, 2, 5)), (2, (1, 2, 5))):
            self.assertEqual(done(*lines, heads=("cell x 3",), cells=(cell,))[1], expected)
        for cell, expected in ((0, (5,)), (1, (1, 5))):
            self.assertEqual(done("if x", "  tell 1", "tell 5", heads=("cell x 3",), cells=(cell,))[1], expected)

    def test_repeat(self):
        self.assertEqual(done("repeat 2", "  tell x", "  set x more(x)", heads=("cell x 9",))[:2], ((2,), (0, 1)))
        self.assertEqual(done("repeat 3", "  tell x", "  set x more(x)", heads=("cell x 9",))[:2], ((3,), (0, 1, 2)))
        lines = ("repeat 3", "  repeat 2", "    set x more(x)", "  tell x")
        self.assertEqual(done(*lines, heads=("cell x 9",))[:2], ((6,), (2, 4, 6)))

    def test_ask(self):
        heads = ("cell x 2",)
        self.assertEqual(done("ask price x", heads=heads, answers=(1,)), ((1,), (), True, False))
        self.assertEqual(done("ask price x", heads=heads, answers=(0,), cells=(1,))[0], (0,))
        self.assertEqual(done("ask price", heads=heads, answers=(1,)), ((0,), (), True, False))
        self.assertEqual(done("ask price x", heads=heads, answers=(1,), is_met=False), ((0,), (), True, False))
        self.assertEqual(done("ask price x", heads=heads, answers=(2,), doors=("price 3",))[0], (1,))

    def test_else_of_an_ask(self):
        lines = ("ask price x", "else", "  set x 2", "  cry", "tell x")
        rows = {"heads": ("cell x 3",), "answers": (1,)}
        self.assertEqual(done(*lines, **rows), ((1,), (1,), True, False))
        self.assertEqual(done(*lines, is_met=False, **rows), ((2,), ("cry", 2), True, True))

    def test_other_doors_always_answer(self):
        lines = ("ask stock x", "else", "  cry", "tell x")
        rows = {"heads": ("cell x 3",), "doors": PAIR, "answers": (0, 2)}
        for is_met in (True, False):
            self.assertEqual(done(*lines, is_met=is_met, **rows), ((2,), (2,), False, False))
        self.assertEqual(done(*lines, door="stock", is_met=True, **rows), ((2,), (2,), True, False))
        self.assertEqual(done(*lines, door="stock", is_met=False, **rows), ((0,), ("cry", 0), True, True))

    def test_asking_again_never_helps(self):
        lines = ("repeat 3", "  ask price x", "  else", "    cry", "  tell x")
        rows = {"heads": ("cell x 2",), "answers": (1,)}
        self.assertEqual(done(*lines, **rows)[1], (1, 1, 1))
        self.assertEqual(done(*lines, is_met=False, **rows)[1], ("cry", 0, "cry", 0, "cry", 0))

    def test_not_reached_is_not_asked(self):
        self.assertEqual(done("if 0", "  ask price"), ((), (), False, False))
        self.assertEqual(done("stop", "ask price"), (None, (), False, False))

    def test_the_first_text_of_section_4(self):
        book = Book(WEEK)
        stand = ((1, 0), 0, (2,), 0)
        self.assertEqual(happens(book, "price", "shop", 0, stand, ((1,), (0,), True)),
                         (((0, 4), 0, (0,), 0), (0,), True, False))
        self.assertEqual(happens(book, "price", "shop", 0, stand, ((1,), (0,), False)),
                         (((1, 4), 0, (0,), 0), ("cry", 1), True, True))
        self.assertEqual(happens(book, "price", "shop", 0, ((1, 3), 0, (0,), 0), ((0,), (0,), False)),
                         (((1, 2), 0, (1,), 0), (1,), False, False))


class HappensTest(unittest.TestCase):
    """What becomes of the rest of a stand."""

    def behind(self, book, stand, turn, day=0):
        return happens(book, "price", "shop", day, stand, turn)[0]

    def test_asleep(self):
        book = book_with("set x 1", "ask price", "cry", sleeps="3", heads=("cell x 3", "user a 2 within 3"))
        self.assertEqual(happens(book, "price", "shop", 4, ((2,), 1, (2,), 0), ()),
                         (((2,), 2, (2,), 0), (), False, False))
        book = book_with("cry", sleeps="always", heads=("cell x 3", "user a 2 within 3"))
        self.assertEqual(happens(book, "price", "shop", 4, ((2,), 0, (1,), 0), ()),
                         (((2,), 0, (1,), 0), (), False, False))

    def test_awake(self):
        book = book_with("rest", sleeps="2", heads=("user a 3 within 3", "user b 2"))
        for lack, choices, expected in ((0, (0, 0), (1, 0)), (1, (0, 1), (2, 0)), (2, (1, 0), (0, 0)),
                                        (1, (2, 0), (0, 0))):
            self.assertEqual(self.behind(book, ((), 2, (lack, 0), 0), (choices, (0,), True)), ((), 0, expected, 0))
        book = book_with("rest", heads=("user a 2 within 1", "user b 2 within 4"))
        self.assertEqual(self.behind(book, ((), 0, (0, 2), 0), ((1, 0), (0,), True)), ((), 0, (0, 3), 0))

    def test_age(self):
        for many in (1, 2, 12):
            book = book_with("rest", lives=str(many), sleeps="3")
            for age in range(many):
                last = age == many - 1
                awake, asleep = ((), 0, (), age + 1), ((), 1, (), age + 1)
                self.assertEqual(self.behind(book, ((), 0, (), age), ((), (0,), True)), None if last else awake)
                self.assertEqual(self.behind(book, ((), 0, (), age), ()), None if last else asleep)
        for begins in ("always", "one"):
            book = book_with("rest", begins=begins, sleeps="always")
            self.assertEqual(self.behind(book, ((), 0, (), 0), ()), ((), 0, (), 0))
            self.assertEqual(self.behind(book, ((), 0, (), 0), ((), (0,), False)), ((), 0, (), 0))

    def test_the_last_day_is_done(self):
        book = book_with("cry", "ask price", lives="1")
        self.assertEqual(happens(book, "price", "shop", 0, ((), 0, (), 0), ((), (1,), False)),
                         (None, ("cry",), True, True))

    def test_stop_ends_ahead_of_the_age(self):
        book = book_with("stop", lives="9")
        self.assertIsNone(self.behind(book, ((), 0, (), 2), ((), (0,), True)))

    def test_kinds_of_values(self):
        book = Book(WEEK)
        told = happens(book=book, door="price", client="shop", day=1, stand=((0, 0), 0, (0,), 0),
                       turn=((1,), (1,), True))
        self.assertEqual([type(part) for part in told], [tuple, tuple, bool, bool])
        self.assertEqual([type(part) for part in told[0]], [tuple, int, tuple, int])

    def test_equal_calls(self):
        book = Book(WEEK)
        stand = first_stand(book, "shop")
        for turn in turns(book, "price", "shop", stand, "half"):
            self.assertEqual(happens(book, "price", "shop", 3, stand, turn),
                             happens(book, "price", "shop", 3, stand, turn))
        self.assertEqual(book, Book(WEEK))

    def test_errors_in_their_order(self):
        book, stand, turn = Book(SHOP), ((0,), 0, (), 0), ((), (1,), True)
        rows = [("price", "BadDoor"), ("shop", "NoClient"), (3, "BadDay"), (stand, "BadStand"), (turn, "BadTurn")]
        right = [value for value, _ in rows]
        for at, (_, name) in enumerate(rows):
            for value in ODD_VALUES + [-1, "3", (3,), ()]:
                with self.subTest(at=at, value=value):
                    got = raised(happens, book, *right[:at], *[value] * (5 - at))
                    self.assertEqual(got[0], name)
                    self.assertIs(got[1], value)
                    self.assertEqual(raised(happens, book, *right[:at], value, *right[at + 1:])[0], name)

    def test_what_is_no_turn(self):
        book = book_with("ask price", sleeps="1", doors=PAIR, heads=("user a 2 within 2", "user b 3"))
        awake, tired, lacking = ((), 0, (0, 0), 0), ((), 1, (0, 0), 0), ((), 0, (1, 0), 0)
        right = ((1, 2), (1, 0), True)
        for stand in (awake, tired, lacking):
            for turn in turns(book, "price", "shop", stand, "half"):
                happens(book, "price", "shop", 0, stand, turn)
        wrong = [((2, 2), (1, 0), True), ((1, 3), (1, 0), True), ((1, 2), (2, 0), True), ((1, 2), (1, 1), True),
                 ((-1, 2), (1, 0), True), ((1, 2), (1, 0), 1), ((1, 2), (1, 0), 0), ((1, 2), (1, 0), None),
                 ((True, 2), (1, 0), True), ((1, 2), (True, 0), True), ((1, 2), (1, False), True),
                 ([1, 2], (1, 0), True), ((1, 2), [1, 0], True),
                 ((1, 2), (1,), True), ((1,), (1, 0), True), ((1, 2, 0), (1, 0), True),
                 ((1, 2), (1, 0, 0), True), right + (0,), right[:2], list(right), (right,), [], ((),), right[::-1]]
        for turn in wrong + ODD_VALUES:
            with self.subTest(turn=turn):
                got = raised(happens, book, "price", "shop", 0, awake, turn)
                self.assertEqual(got[0], "BadTurn")
                self.assertIs(got[1], turn)
        self.assertEqual(raised(happens, book, "price", "shop", 0, tired, ()), ("BadTurn", ()))
        zero = ((0, 2), (1, 0), True)
        self.assertEqual(raised(happens, book, "price", "shop", 0, lacking, zero), ("BadTurn", zero))


class LivedTest(unittest.TestCase):
    def test_days_go_on(self):
        book = book_with("tell week", "set x more(x)", "tell x", begins="until 9", lives="3", sleeps="1",
                         calendars=("week 7",), heads=("cell x 9",))
        wake = ((), (0,), True)
        self.assertEqual(lived(book, "price", ("shop", 6, (wake, (), wake))), (
            (((1,), 0, (), 1), (6, 1), False, False),
            (((1,), 1, (), 2), (), False, False),
            (None, (1, 2), False, False)))
        self.assertEqual(len(lived(book, "price", ("shop", 9, (wake, wake)))), 2)

    def test_it_is_what_happens_tells(self):
        book = Book(WEEK)
        wakes = tuple(((n % 3 % 2,), (n % 2,), n % 5 != 0) for n in range(1, 20))
        told = lived(door="price", book=book, life=("shop", 3, wakes))
        stand = first_stand(book, "shop")
        for at, turn in enumerate(wakes):
            self.assertEqual(told[at], happens(book, "price", "shop", 3 + at, stand, turn))
            stand = told[at][0]
        self.assertEqual(len(told), 19)

    def test_the_day_of_the_begin(self):
        wake = ((), (0,), True)
        for begins, right, wrong in (("until 0", [0], [1, 2]), ("until 3", [0, 3], [4, 10 ** 17]),
                                     ("always", [0, 40, 10 ** 17], []), ("one", [0], [1])):
            book = book_with("rest", begins=begins)
            for begin in right:
                self.assertEqual(lived(book, "price", ("shop", begin, (wake,))), ((((), 0, (), 0), (), False, False),))
            for begin in wrong + [-1, True, False, None, "0", (0,), []]:
                life = ("shop", begin, (wake,))
                self.assertEqual(raised(lived, book, "price", life), ("BadLife", life))

    def test_nothing_behind_the_end(self):
        wake = ((), (0,), True)
        ends = book_with("rest", lives="2", sleeps="always")
        for met in ((wake, wake, wake), (wake, wake, ()), ((), (), ())):
            self.assertEqual(raised(lived, ends, "price", ("shop", 0, met)), ("BadLife", ("shop", 0, met)))
            self.assertEqual(len(lived(ends, "price", ("shop", 0, met[:2]))), 2)
        stops = book_with("ask price", "else", "  stop")
        left = ((), (0,), False)
        self.assertEqual(lived(stops, "price", ("shop", 0, (wake, left)))[1], (None, (), True, False))
        self.assertEqual(raised(lived, stops, "price", ("shop", 0, (left, wake)))[0], "BadLife")

    def test_the_door_that_is_asked_about(self):
        book = book_with("ask stock", "else", "  stop", doors=PAIR)
        life = ("shop", 0, (((), (0, 0), False),) * 2)
        self.assertEqual(len(lived(book, "price", life)), 2)
        self.assertEqual(raised(lived, book, "stock", life), ("BadLife", life))

    def test_what_is_no_life(self):
        book = book_with("rest", sleeps="1", heads=("user a 2 within 2",))
        wake, lacks = ((1,), (0,), True), ((0,), (0,), True)
        right = ("shop", 2, (wake, (), lacks, wake))
        lived(book, "price", right)
        wrong = [("shop", 2, ()), ("shop", 2, [wake]), list(right), right[:2], right + (0,), ("price", 2, (wake,)),
                 (["shop"], 2, (wake,)), (None, 2, (wake,)), ("shop", 2, (wake, 0)), ("shop", 2, (wake, None)),
                 ("shop", 2, (list(wake),)), ("shop", 2, (((1,), (0,), 1),)), ("shop", 2, (((True,), (0,), True),)),
                 ("shop", 2, (((1,), (1,), True),)), ("shop", 2, (((2,), (0,), True),)), ("shop", 2, ((), ())),
                 ("shop", 2, (lacks, lacks)), ("shop", 2, (lacks, (), lacks)), ("shop", 2, wake), ("shop", 2, None), ()]
        for life in wrong + ODD_VALUES + [1, "shop"]:
            with self.subTest(life=life):
                got = raised(lived, book, "price", life)
                self.assertEqual(got[0], "BadLife")
                self.assertIs(got[1], life)
                self.assertEqual(raised(lived, book, "stock", life), ("BadDoor", "stock"))
        for value in ODD_VALUES + [0, (), "shop", ("price",)]:
            got = raised(lived, book, value, right)
            self.assertEqual(got[0], "BadDoor")
            self.assertIs(got[1], value)


if __name__ == "__main__":
    unittest.main()
