"""Section 14: watches."""

import unittest

from unmissed.asking import still_asked
from unmissed.books import Book
from unmissed.fitting import can_be, stands, within
from unmissed.harming import harm, harmed
from unmissed.journals import read_journal
from unmissed.plans import enough
from unmissed.reports import days_of, folded
from unmissed.waiting import wait
from unmissed.watches import Watch
from tests.chance import Maker, ShutMaker
from tests.orders import WRONG
from tests.samples import ODD_VALUES, SHOP, WEEK, book_of, book_with, client, raised
from tests.test_asking import slow_rows
from tests.test_fitting import HALF, HEARD, OPEN, QUIET, SHUT, many_stands, plain, report

CRIES = ("ask price", "else", "  cry")


def set_day(watch, day, value):
    watch[day] = value


def add(watch, history):
    watch += history
    return watch


def all_of(watch):
    """All that can be seen of a watch, what can be undone and done again among it."""
    other = watch.copy()
    told = [(watch.reports, watch.history, watch.done, watch.journal, len(watch))]
    while other.done:
        other.undo()
        told.append((other.reports, other.journal))
    while raised(other.redo) is None:
        told.append((other.reports, other.journal))
    return told


class Base(unittest.TestCase):
    def watch(self, *reports, text=SHOP):
        watch = Watch(Book(text), "price")
        for row in reports:
            self.assertIsNone(watch.go_on(row))
        return watch

    def assert_unchanged(self, watch, call, *arguments):
        """The error that a call raises, behind which the watch is as it was."""
        ahead = all_of(watch)
        got = raised(call, *arguments)
        self.assertEqual(all_of(watch), ahead)
        return got


class WatchTest(Base):
    def test_no_days(self):
        watch = self.watch()
        self.assertEqual((watch.book, watch.door, watch.history, watch.reports, watch.done, len(watch)),
                         (Book(SHOP), "price", (), (), 0, 0))
        self.assertEqual(watch.journal, (*SHOP.split("\n"), "watch price"))
        self.assertEqual((watch.stands("shop"), watch.harmed(), watch.may_go()), ((), ("shop",), False))

    def test_attributes_are_set_when_it_is_created(self):
        watch = self.watch()
        for name in ("book", "door", "history", "reports", "done", "journal"):
            self.assertIn(name, vars(watch))
        book = Book(SHOP)
        self.assertIs(Watch(book=book, door="price").book, book)

    def test_bad_doors(self):
        for value in WRONG + ["shop", "stock", ("price", 2)]:
            got = raised(Watch, Book(SHOP), value)
            self.assertEqual(got[0], "BadDoor")
            self.assertIs(got[1], value)

    def test_methods_stand_in_the_class_itself(self):
        for name in ("go_on __setitem__ __iadd__ __len__ __getitem__ __contains__ stands still_asked harm harmed wait "
                     "enough may_go undo redo trial keep tried copy __eq__ within").split():
            self.assertIn(name, vars(Watch))

    def test_go_on(self):
        watch = self.watch(QUIET, QUIET, SHUT, QUIET)
        self.assertEqual(watch.reports, (QUIET, QUIET, SHUT, QUIET))
        self.assertEqual(watch.history, ((2, QUIET), (1, SHUT), (1, QUIET)))
        self.assertEqual((watch.done, len(watch)), (4, 4))
        watch.go_on(report=HALF)
        self.assertEqual(watch[4], HALF)
        self.assertEqual(watch.journal[-5:], ("day open asks/*/none",) * 2 + ("day shut -", "day open asks/*/none",
                                                                             "day half -"))

    def test_days_told_late(self):
        watch = self.watch(OPEN, OPEN, OPEN)
        watch[2] = SHUT
        watch[0] = QUIET
        watch[1] = HALF
        watch[0] = HALF
        self.assertEqual((watch.reports, watch.history, watch.done), ((HALF, HALF, SHUT), ((2, HALF), (1, SHUT)), 7))
        self.assertEqual(watch.journal[-4:], ("late 2 shut -", "late 0 open asks/*/none", "late 1 half -",
                                              "late 0 half -"))

    def test_the_same_report_told_again_is_a_deed(self):
        watch = self.watch(OPEN, SHUT)
        watch[1] = SHUT
        self.assertEqual((watch.reports, watch.done, watch.journal[-1]), ((OPEN, SHUT), 3, "late 1 shut -"))
        watch.undo()
        self.assertEqual((watch.reports, watch.done), ((OPEN, SHUT), 2))

    def test_days_of_a_history(self):
        watch = self.watch(OPEN)
        same = watch
        watch += ((2, OPEN), (1, OPEN), (3, SHUT))
        self.assertIs(watch, same)
        self.assertEqual((watch.reports, watch.done), ((OPEN,) * 4 + (SHUT,) * 3, 2))
        self.assertEqual(watch.history, ((4, OPEN), (3, SHUT)))
        self.assertEqual(watch.journal[-4:], ("days 3", "2 open -", "1 open -", "3 shut -"))
        watch.undo()
        self.assertEqual(watch.reports, (OPEN,))
        watch.redo()
        self.assertEqual(len(watch), 7)

    def test_a_deed_without_days(self):
        watch = self.watch(OPEN)
        watch += ()
        self.assertEqual((watch.reports, watch.done, watch.journal[-1]), ((OPEN,), 2, "days 0"))
        watch.undo()
        watch.undo()
        self.assertEqual((watch.reports, watch.done), ((), 0))
        watch.redo()
        watch.redo()
        self.assertEqual((watch.done, watch.journal[-2:]), (2, ("day open -", "days 0")))

    def test_items(self):
        watch = self.watch(OPEN, SHUT, QUIET)
        self.assertEqual([watch[day] for day in range(3)], [OPEN, SHUT, QUIET])
        for value in WRONG + [3, -1, 10 ** 17, (0,), "0", True, False]:
            if value == 0 and type(value) is int:
                continue
            for call, more in ((lambda day: watch[day], ()), (set_day, (OPEN,)), (set_day, (None,))):
                arguments = (value, *more) if not more else (watch, value, *more)
                got = self.assert_unchanged(watch, call, *arguments)
                self.assertEqual(got[0], "NoDay")
                self.assertIs(got[1], value)
        empty = self.watch()
        self.assertEqual(raised(set_day, empty, 0, OPEN), ("NoDay", 0))
        self.assertEqual(raised(lambda: empty[0]), ("NoDay", 0))

    def test_contains(self):
        watch = self.watch(OPEN, QUIET)
        self.assertTrue(OPEN in watch and QUIET in watch)
        for value in WRONG + [SHUT, HEARD, (), ("open", []), ["open", ()], (OPEN,), 1, watch, "open -", None]:
            self.assertIs(value in watch, value == OPEN)
        self.assertIs(OPEN in self.watch(), False)
        watch[0] = SHUT
        self.assertIs(OPEN in watch, False)

    def test_bad_reports(self):
        watch = self.watch(OPEN, QUIET)
        watch.undo()
        for value in ODD_VALUES + [0, (), "open -", ("open",), ["open", ()], ("open", (("asks", "nobody", "some"),)),
                                   (1, OPEN), ((1, OPEN),), ("open", [])]:
            for call, arguments in ((watch.go_on, (value,)), (set_day, (watch, 0, value))):
                got = self.assert_unchanged(watch, call, *arguments)
                self.assertEqual(got[0], "BadReport")
                self.assertIs(got[1], value)

    def test_bad_histories(self):
        watch = self.watch(OPEN, QUIET)
        watch.undo()
        for value in WRONG + [OPEN, (OPEN,), ((61, OPEN),), ((1, OPEN), (0, OPEN)), [], ((True, OPEN),)]:
            got = self.assert_unchanged(watch, add, watch, value)
            self.assertEqual(got[0], "BadHistory")
            self.assertIs(got[1], value)

    def test_deeds_that_cannot_be(self):
        watch = self.watch(QUIET, QUIET, QUIET, QUIET, OPEN, OPEN)
        watch.undo()
        for call, arguments, many in (
            (watch.go_on, (HEARD,), 5), (set_day, (watch, 4, HEARD), 4), (add, (watch, ((2, OPEN), (1, HEARD), (1, OPEN))), 7),
            (add, (watch, ((1, HEARD), (3, QUIET))), 5),
        ):
            self.assertEqual(self.assert_unchanged(watch, call, *arguments), ("CannotBe", many))
        # A day told late lets what could not be; another one makes it impossible again.
        watch[3] = OPEN
        watch.go_on(HEARD)
        self.assertEqual(self.assert_unchanged(watch, set_day, watch, 3, QUIET), ("CannotBe", 5))
        self.assertEqual(watch.reports[3:], (OPEN, OPEN, HEARD))

    def test_the_one_copy(self):
        watch = self.watch(OPEN, text=book_with("ask price", begins="one").text)
        self.assertEqual(self.assert_unchanged(watch, watch.go_on, QUIET), ("CannotBe", 1))
        self.assertEqual(self.assert_unchanged(watch, set_day, watch, 0, QUIET), ("CannotBe", 0))

    def test_too_many_stands(self):
        watch = self.watch(text=many_stands("always").text)
        watch += ((25, OPEN),)
        watch[0] = SHUT
        watch.undo()
        never = report("open", "asks/shop/some")
        for call, arguments in ((watch.go_on, (OPEN,)), (add, (watch, ((1, OPEN),))), (add, (watch, ((1, never), (1, OPEN)))),
                                (watch.go_on, (never,))):
            self.assertEqual(self.assert_unchanged(watch, call, *arguments), ("TooMany", 300))
        self.assertEqual(self.assert_unchanged(watch, set_day, watch, 24, never), ("CannotBe", 24))
        watch[24] = SHUT
        self.assertEqual(len(watch.stands("shop")), 300)
        # Fewer days have so many stands; told late, a day lets them be too many.
        calm = many_stands("always", lines=("if x", "  if y", "    cry", "    set x more(x)", "else", "  set x 1",
                                            "ask stock y"))
        late = Watch(calm, "price")
        late += ((30, report("open", "cries/*/none")),)
        for day in range(24):
            late[day] = OPEN
        for day in range(24, 29):
            self.assertEqual(self.assert_unchanged(late, set_day, late, day, OPEN), ("TooMany", 300))
        # In the last morning none begin.
        late[29] = OPEN
        self.assertEqual((len(late.stands("shop")), late.done), (300, 26))

    def test_undo_and_redo(self):
        watch = self.watch()
        for call in (watch.undo, watch.redo):
            self.assertEqual(self.assert_unchanged(watch, call), (call.__name__.replace("un", "NothingToUn").replace(
                "re", "NothingToRe"), None))
        watch.go_on(OPEN)
        watch[0] = SHUT
        watch += ((2, HALF),)
        states = [(), (OPEN,), (SHUT,), (SHUT, HALF, HALF)]
        for at in (2, 1, 0):
            self.assertIsNone(watch.undo())
            self.assertEqual((watch.reports, watch.done), (states[at], at))
        self.assertEqual(raised(watch.undo), ("NothingToUndo", None))
        for at in (1, 2, 3):
            self.assertIsNone(watch.redo())
            self.assertEqual((watch.reports, watch.done), (states[at], at))
        self.assertEqual(raised(watch.redo), ("NothingToRedo", None))

    def test_a_new_deed_forgets_what_was_taken_back(self):
        for deed in (lambda watch: watch.go_on(QUIET), lambda watch: set_day(watch, 0, OPEN), lambda watch: add(watch, ())):
            watch = self.watch(OPEN, SHUT, HALF)
            watch.undo()
            watch.undo()
            deed(watch)
            self.assertEqual(raised(watch.redo), ("NothingToRedo", None))
            self.assertEqual(watch.done, 2)
            watch.undo()
            watch.redo()
            self.assertEqual(watch.done, 2)

    def test_a_deed_that_is_refused_forgets_nothing(self):
        watch = self.watch(OPEN, SHUT, HALF)
        watch.undo()
        watch.undo()
        never = report("open", "asks/*/none", "asks/shop/some")
        for call, arguments in ((watch.go_on, (never,)), (watch.go_on, (None,)), (set_day, (watch, 0, never)),
                                (set_day, (watch, 1, OPEN)), (add, (watch, ((1, never),))), (add, (watch, None))):
            self.assertIn(self.assert_unchanged(watch, call, *arguments)[0],
                          ("CannotBe", "BadReport", "NoDay", "BadHistory"))
        watch.redo()
        watch.redo()
        self.assertEqual(watch.reports, (OPEN, SHUT, HALF))

    def test_undo_of_days_told_late(self):
        watch = self.watch(QUIET, QUIET, QUIET)
        watch[1] = OPEN
        watch.go_on(HEARD)
        watch[1] = HALF
        watch.undo()
        self.assertEqual(watch.reports, (QUIET, OPEN, QUIET, HEARD))
        watch.undo()
        watch.undo()
        self.assertEqual(watch.reports, (QUIET,) * 3)
        self.assertEqual(watch.journal[-1], "day open asks/*/none")

    def test_questions(self):
        for text in (SHOP, WEEK, book_with(*CRIES, sleeps="1", begins="until 2").text):
            book, watch = Book(text), self.watch(text=text)
            for row in (None, OPEN, QUIET, SHUT, QUIET, HALF):
                if row is not None:
                    watch.go_on(row)
                history = watch.history
                self.assertEqual(watch.stands("shop"), stands(book, "price", history, "shop"))
                self.assertEqual(watch.still_asked(), still_asked(book, "price", history))
                self.assertEqual(watch.harm(), harm(book, "price", history))
                self.assertEqual(watch.harmed(), harmed(book, "price", history))
                self.assertIs(watch.may_go(), harm(book, "price", history)[0] == "harmless")
                self.assertEqual(watch.wait(QUIET), wait(book, "price", history, QUIET))
                for plan in ((), (QUIET, SHUT)):
                    self.assertEqual(watch.enough(plan), enough(book, "price", history, plan))
        self.assertEqual(watch.wait(report=QUIET), watch.wait(QUIET))
        self.assertEqual(watch.enough(plan=()), watch.enough(()))
        self.assertEqual(watch.stands(client="shop"), watch.stands("shop"))

    def test_may_go(self):
        watch = self.watch(QUIET, QUIET, QUIET)
        self.assertIs(watch.may_go(), False)
        watch.go_on(QUIET)
        self.assertIs(watch.may_go(), True)
        watch[2] = OPEN
        self.assertIs(watch.may_go(), True)
        watch[3] = OPEN
        self.assertIs(watch.may_go(), False)
        watch.undo()
        self.assertIs(watch.may_go(), True)

    def test_errors_of_questions(self):
        watch = self.watch(OPEN)
        for value in WRONG + ["price", "nobody"]:
            got = self.assert_unchanged(watch, watch.stands, value)
            self.assertEqual(got[0], "NoClient")
            self.assertIs(got[1], value)
        for value in ODD_VALUES + [OPEN, HEARD, 0, (QUIET,)]:
            got = self.assert_unchanged(watch, watch.wait, value)
            self.assertEqual(got[0], "BadReport")
            self.assertIs(got[1], value)
        for value in ODD_VALUES + [OPEN, 0, (HEARD,), (OPEN,) * 13]:
            got = self.assert_unchanged(watch, watch.enough, value)
            self.assertEqual(got[0], "BadPlan")
            self.assertIs(got[1], value)

    def test_too_many_of_questions(self):
        watch = self.watch(text=slow_rows("until 0").text)
        for call in (watch.still_asked, watch.harm, watch.harmed, watch.may_go, lambda: watch.wait(QUIET),
                     lambda: watch.enough(())):
            self.assertEqual(self.assert_unchanged(watch, call), ("TooMany", 1500))
        stands_watch = self.watch(text=many_stands("always").text)
        stands_watch += ((20, OPEN),)
        self.assertEqual(raised(stands_watch.enough, (OPEN,) * 6), ("TooMany", 300))

    def test_equal_watches(self):
        one, other = self.watch(OPEN, SHUT), self.watch()
        other += ((2, OPEN),)
        other[1] = SHUT
        self.assertTrue(one == other and not one != other)
        other.undo()
        self.assertFalse(one == other)
        self.assertEqual(self.watch(), self.watch())
        text = book_of(*client("shop", "  day", "    rest")).replace("door price 2", "door price 2\ndoor stock 2")
        two = [Watch(Book(text), door) for door in ("price", "stock", "price")]
        self.assertEqual([two[0] == two[1], two[0] == two[2], two[0] == self.watch()], [False, True, False])
        for value in WRONG + [(), one.reports, one.journal, one.history, one.book, "watch"]:
            self.assertFalse(self.watch() == value or value == self.watch())
            self.assertTrue(self.watch() != value)

    def test_walking_over_a_watch(self):
        self.assertRaises(TypeError, list, self.watch(OPEN))


class CopyTest(Base):
    def test_copies_go_on_by_themselves(self):
        watch = self.watch(OPEN, SHUT, HALF)
        watch.undo()
        other = watch.copy()
        self.assertTrue(other == watch and other is not watch)
        self.assertEqual(all_of(other), all_of(watch))
        other.redo()
        self.assertEqual((watch.reports, other.reports), ((OPEN, SHUT), (OPEN, SHUT, HALF)))
        watch.go_on(QUIET)
        other[0] = SHUT
        self.assertEqual((watch.reports, other.reports), ((OPEN, SHUT, QUIET), (SHUT, SHUT, HALF)))
        self.assertEqual(raised(watch.redo), ("NothingToRedo", None))
        for _ in range(4):
            other.undo()
        self.assertEqual((other.reports, watch.done), ((), 3))

    def test_a_copy_is_outside_of_all_trials(self):
        watch = self.watch(OPEN)
        with watch.trial():
            watch.go_on(SHUT)
            other = watch.copy()
            self.assertEqual(raised(other.keep), ("NoTrial", None))
        self.assertEqual((watch.reports, other.reports), ((OPEN,), (OPEN, SHUT)))
        other.undo()
        self.assertEqual(other.reports, (OPEN,))
        with other.trial():
            other.undo()
            self.assertEqual(raised(watch.keep), ("NoTrial", None))
        self.assertEqual(other.reports, (OPEN,))


class TrialTest(Base):
    def test_it_leaves_nothing(self):
        watch = self.watch(OPEN, SHUT, HALF)
        watch.undo()
        ahead = all_of(watch)
        with watch.trial() as held:
            self.assertIs(held, watch)
            watch.go_on(QUIET)
            watch[0] = HALF
            held += ((9, OPEN),)
            self.assertEqual((len(watch), watch.done), (12, 5))
            watch.undo()
            self.assertEqual(watch.reports, (HALF, SHUT, QUIET))
        self.assertEqual(all_of(watch), ahead)
        with watch.trial():
            for _ in range(2):
                watch.undo()
        self.assertEqual(all_of(watch), ahead)
        with watch.trial():
            watch.redo()
        self.assertEqual(all_of(watch), ahead)
        with watch.trial():
            pass
        self.assertEqual(all_of(watch), ahead)

    def test_it_is_kept(self):
        watch = self.watch(OPEN)
        with watch.trial() as held:
            held.go_on(SHUT)
            self.assertIsNone(held.keep())
            held.go_on(HALF)
        self.assertEqual((watch.reports, watch.done), ((OPEN, SHUT, HALF), 3))
        watch.undo()
        self.assertEqual(watch.reports, (OPEN, SHUT))
        with watch.trial():
            watch.keep()
            watch.keep()
            watch.undo()
        self.assertEqual(watch.reports, (OPEN,))
        watch.redo()
        watch.redo()
        self.assertEqual(watch.reports, (OPEN, SHUT, HALF))

    def test_trials_within_trials(self):
        for outer in (False, True):
            for inner in (False, True):
                watch = self.watch(OPEN)
                with watch.trial():
                    watch.go_on(SHUT)
                    with watch.trial():
                        watch.go_on(HALF)
                        if inner:
                            watch.keep()
                    self.assertEqual(watch.reports, (OPEN, SHUT, HALF) if inner else (OPEN, SHUT))
                    if outer:
                        watch.keep()
                expected = (OPEN, SHUT, HALF) if inner else (OPEN, SHUT)
                self.assertEqual(watch.reports, expected if outer else (OPEN,))
                self.assertEqual(raised(watch.keep), ("NoTrial", None))

    def test_keep_counts_for_the_innermost_block_that_goes_on(self):
        watch = self.watch()
        with watch.trial():
            watch.keep()
            with watch.trial():
                watch.go_on(OPEN)
            watch.go_on(SHUT)
        self.assertEqual(watch.reports, (SHUT,))
        with watch.trial():
            with watch.trial():
                pass
            watch.keep()
            watch.go_on(HALF)
        self.assertEqual(watch.reports, (SHUT, HALF))

    def test_no_trial(self):
        watch = self.watch(OPEN)
        self.assertEqual(self.assert_unchanged(watch, watch.keep), ("NoTrial", None))
        watch.trial()
        self.assertEqual(raised(watch.keep), ("NoTrial", None))

    def test_a_block_that_is_entered_later(self):
        watch = self.watch(OPEN)
        block = watch.trial()
        watch.go_on(SHUT)
        with block:
            watch.go_on(HALF)
        self.assertEqual(watch.reports, (OPEN, SHUT))

    def test_left_by_an_error(self):
        for is_kept in (False, True):
            watch = self.watch(OPEN, SHUT)
            watch.undo()
            ahead = all_of(watch)
            for error in (KeyError, ValueError):
                with self.assertRaises(error):
                    with watch.trial():
                        watch.go_on(HALF)
                        if is_kept:
                            watch.keep()
                        raise error("out")
                self.assertEqual(all_of(watch), ahead)
                self.assertEqual(raised(watch.keep), ("NoTrial", None))

    def test_left_by_an_error_of_a_deed(self):
        watch = self.watch(QUIET, QUIET, QUIET, QUIET)
        ahead = all_of(watch)

        def look(held):
            held.go_on(OPEN)
            held.keep()
            held.go_on(HEARD)

        self.assertEqual(raised(watch.tried, look), ("CannotBe", 5))
        self.assertEqual(all_of(watch), ahead)

    def test_an_error_within_the_inner_block_alone(self):
        watch = self.watch(OPEN)
        with watch.trial():
            watch.go_on(SHUT)
            try:
                with watch.trial():
                    watch.go_on(HALF)
                    watch.keep()
                    raise KeyError("out")
            except KeyError:
                pass
            self.assertEqual(watch.reports, (OPEN, SHUT))
            watch.keep()
        self.assertEqual(watch.reports, (OPEN, SHUT))

    def test_a_refused_deed_within_a_block(self):
        watch = self.watch(QUIET, QUIET, QUIET, QUIET)
        with watch.trial():
            watch.go_on(OPEN)
            self.assertEqual(self.assert_unchanged(watch, watch.go_on, HEARD), ("CannotBe", 5))
            self.assertEqual(len(watch), 5)
            watch.keep()
        self.assertEqual(len(watch), 5)

    def test_tried(self):
        watch = self.watch(QUIET, QUIET)
        ahead = all_of(watch)

        def look(held):
            self.assertIs(held, watch)
            held += ((2, QUIET),)
            return held.may_go(), held.done

        self.assertEqual(watch.tried(look), (True, 3))
        self.assertEqual(all_of(watch), ahead)
        for value in (False, None, 1, "True", (True,), [True], {}, 0, Book(SHOP)):
            self.assertEqual(watch.tried(look, keep=value), (True, 3))
            self.assertEqual(all_of(watch), ahead)
        self.assertEqual(watch.tried(keep=True, look=look), (True, 3))
        self.assertEqual(len(watch), 4)
        self.assertEqual(raised(watch.keep), ("NoTrial", None))
        self.assertRaises(TypeError, watch.tried, look, True)

    def test_tried_and_kept_by_the_look(self):
        watch = self.watch(OPEN)
        watch.tried(lambda held: (held.go_on(SHUT), held.keep()))
        self.assertEqual(watch.reports, (OPEN, SHUT))
        watch.tried(lambda held: held.tried(lambda inner: inner.go_on(HALF), keep=True))
        self.assertEqual(watch.reports, (OPEN, SHUT))
        watch.tried(lambda held: held.tried(lambda inner: inner.go_on(HALF), keep=True), keep=True)
        self.assertEqual(watch.reports, (OPEN, SHUT, HALF))

    def test_errors_of_looks_are_passed_on(self):
        watch = self.watch(OPEN)
        ahead = all_of(watch)
        for keep in (False, True):
            with self.assertRaises(ZeroDivisionError):
                watch.tried(lambda held: held.go_on(SHUT) or 1 // 0, keep=keep)
            self.assertEqual(all_of(watch), ahead)
            self.assertEqual(raised(watch.keep), ("NoTrial", None))

    def test_what_look_returns(self):
        watch = self.watch(OPEN)
        for value in (None, 0, (), [], watch, "told"):
            self.assertIs(watch.tried(lambda held: value), value)


class WithinTest(Base):
    def test_within(self):
        for one, other in (((QUIET, QUIET), (OPEN, OPEN)), ((OPEN, OPEN), (OPEN, QUIET)), ((OPEN,), (HALF,)), ((), ())):
            watches = self.watch(*one), self.watch(*other)
            for first, second in (watches, watches[::-1]):
                expected = within(first.book, "price", first.history, second.history)[0] == "within"
                self.assertIs(first.within(second), expected)
                self.assertIs(first.within(other=second), expected)
        self.assertIs(self.watch(QUIET).within(self.watch(OPEN)), True)
        self.assertIs(self.watch(OPEN).within(self.watch(SHUT)), False)

    def test_within_and_somes(self):
        cried = report("half", "cries/shop/some")
        self.assertIs(self.watch(HALF).within(self.watch(cried)), True)
        self.assertIs(self.watch(cried).within(self.watch(HALF)), True)

    def test_unlike(self):
        watch = self.watch(OPEN)
        two = Book(SHOP.replace("door price 2", "door price 2\ndoor stock 2"))
        others = [self.watch(), self.watch(OPEN, OPEN), self.watch(OPEN, text=WEEK), Watch(two, "price")]
        for value in WRONG + [0, (), watch.history, watch.reports, watch.journal, watch.book, *others]:
            got = self.assert_unchanged(watch, watch.within, value)
            self.assertEqual(got[0], "Unlike")
            self.assertIs(got[1], value)
        first, second = Watch(two, "price"), Watch(two, "stock")
        self.assertEqual(raised(first.within, second)[0], "Unlike")
        self.assertIs(first.within(Watch(Book(two.text), "price")), True)


class Model:
    """What a watch has to be, told a second time."""

    def __init__(self):
        self.deeds, self.undone = [], []

    def copy(self):
        other = Model()
        other.deeds, other.undone = list(self.deeds), list(self.undone)
        return other

    def reports(self):
        return self.deeds[-1][1] if self.deeds else ()

    def lines(self):
        return [line for lines, _ in self.deeds for line in lines]


def text_of(row):
    return row[0] + " " + (",".join("/".join(ear) for ear in row[1]) or "-")


class ChanceTest(unittest.TestCase):
    """Watches by chance, beside a model; what they tell is what the functions tell of their days."""

    def test_deeds(self):
        for number in range(60):
            maker = (Maker if number % 2 else ShutMaker)(number)
            book = Book(maker.book())
            watch, model = Watch(book, book.doors[0][0]), Model()
            with self.subTest(number=number):
                for _ in range(14):
                    self.step(watch, model, maker, 0)
                    self.assert_like(watch, model)
                self.assert_told(watch)

    def assert_like(self, watch, model):
        self.assertEqual((watch.reports, watch.done), (model.reports(), len(model.deeds)))
        self.assertEqual(watch.history, folded(watch.book, watch.reports))
        ahead = (*watch.book.text.split("\n"), "watch " + watch.door)
        self.assertEqual(watch.journal, ahead + tuple(model.lines()))

    def assert_told(self, watch):
        book, door, history = watch.book, watch.door, watch.history
        self.assertEqual(watch.harm(), harm(book, door, history))
        self.assertEqual(watch.still_asked(), still_asked(book, door, history))
        for name in book.clients:
            self.assertEqual(watch.stands(name), stands(book, door, history, name))
        again = read_journal(watch.journal)
        self.assertTrue(again == watch)
        self.assertEqual((again.journal, again.done), (watch.journal, watch.done))
        while watch.done:
            watch.undo()
            again.undo()
            self.assertEqual(again.journal, watch.journal)

    def step(self, watch, model, maker, depth):
        """One thing that is done to both."""
        kind = maker.one_of("go_on", "go_on", "late", "add", "undo", "redo", "copy", "trial")
        if kind == "undo":
            got = raised(watch.undo)
            self.assertEqual(got, None if model.deeds else ("NothingToUndo", None))
            if model.deeds:
                model.undone.append(model.deeds.pop())
        elif kind == "redo":
            got = raised(watch.redo)
            self.assertEqual(got, None if model.undone else ("NothingToRedo", None))
            if model.undone:
                model.deeds.append(model.undone.pop())
        elif kind == "copy":
            self.step(watch.copy(), model.copy(), maker, depth + 1)
        elif kind == "trial":
            self.trial(watch, model, maker, depth + 1)
        else:
            self.deed(watch, model, maker, kind)

    def trial(self, watch, model, maker, depth):
        """A trial with some steps, kept or not, or left by an error."""
        ahead, end = model.copy(), maker.one_of("kept", "left", "error")
        try:
            with watch.trial():
                for _ in range(3 if depth < 3 else 0):
                    self.step(watch, model, maker, depth)
                    self.assert_like(watch, model)
                if end != "left":
                    watch.keep()
                if end == "error":
                    raise KeyError("out")
        except KeyError:
            pass
        if end != "kept":
            model.deeds, model.undone = ahead.deeds, ahead.undone
        self.assert_like(watch, model)

    def deed(self, watch, model, maker, kind):
        reports, row = model.reports(), maker.report(watch.book.clients, 0.05)
        if kind == "go_on":
            then, lines, call = reports + (row,), ["day " + text_of(row)], lambda: watch.go_on(row)
        elif kind == "late":
            day = maker.chance.randrange(len(reports) + 1)
            if day == len(reports):
                self.assertEqual(raised(set_day, watch, day, row), ("NoDay", day))
                return
            then, lines = reports[:day] + (row,) + reports[day + 1:], [f"late {day} " + text_of(row)]
            call = lambda: set_day(watch, day, row)
        else:
            history = tuple((maker.one_of(1, 2), maker.report(watch.book.clients, 0.02)) for _ in range(maker.one_of(0, 1, 2)))
            then, lines = reports + days_of(watch.book, history), [f"days {len(history)}"]
            lines += [f"{many} " + text_of(row) for many, row in history]
            call = lambda: add(watch, history) and None
        if can_be(watch.book, watch.door, folded(watch.book, then))[0] == "can":
            call()
            model.deeds.append((lines, then))
            model.undone = []
        else:
            self.assertEqual(raised(call)[0], "CannotBe")


class ManyDaysTest(unittest.TestCase):
    def test_more_days_than_a_history_that_is_handed_in(self):
        watch = Watch(Book(SHOP), "price")
        for _ in range(4):
            watch += ((30, OPEN), (30, QUIET))
        self.assertEqual((len(watch), watch.history, watch.done), (240, ((30, OPEN), (30, QUIET)) * 4, 4))
        self.assertEqual((watch.stands("shop"), watch.may_go()), ((), True))
        self.assertEqual(raised(watch.go_on, HEARD), ("CannotBe", 240))
        again = read_journal(watch.journal)
        self.assertEqual((again == watch, again.journal), (True, watch.journal))

    def test_like_days(self):
        watch = Watch(Book(SHOP), "price")
        for _ in range(3):
            watch += ((60, OPEN),)
        watch += ((1, SHUT), (1, SHUT))
        self.assertEqual(days_of(watch.book, watch.history), watch.reports)
        self.assertEqual((len(watch), watch.history[-1]), (182, (2, SHUT)))
        watch.undo()
        self.assertEqual((watch.stands("shop"), watch.harm()[0]), ((plain(0), plain(1)), "harms"))

    def test_a_hundred_deeds(self):
        watch = Watch(Book(SHOP), "price")
        for _ in range(50):
            watch.go_on(OPEN)
        for day in range(50):
            watch[day] = QUIET
        self.assertEqual((watch.done, watch.history, watch.may_go()), (100, ((50, QUIET),), True))
        for _ in range(100):
            watch.undo()
        self.assertEqual(watch.reports, ())


if __name__ == "__main__":
    unittest.main()
