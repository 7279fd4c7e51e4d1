"""Section 2: the errors, and the names of the interface that have landed."""

import inspect
import unittest

import unmissed.asking
import unmissed.books
import unmissed.days
import unmissed.desk
import unmissed.editing
import unmissed.fitting
import unmissed.harming
import unmissed.journals
import unmissed.parting
import unmissed.plans
import unmissed.reports
import unmissed.texts
import unmissed.waiting
import unmissed.watches
from unmissed import errors
from unmissed.books import Book
from tests.samples import SHOP

NAMES = """BadBook BadName BadDay NoClient LastClient Unlike Clash TooMany BadDoor BadStand BadState BadTurn
BadLife BadHistory BadReport CannotBe BadPlan BadOffers BadTruth UnlikeClients BadEyes NoDay NothingToUndo
NothingToRedo NoTrial BadText BadLines BadLine""".split()

VALUES = [0, -1, 10 ** 17, True, None, "", "some words", ("a", 1), [1, [2]], {"a": {}}]


class ErrorsTest(unittest.TestCase):
    def test_unmissed_error_derives_from_value_error(self):
        self.assertEqual(errors.UnmissedError.__bases__, (ValueError,))

    def test_each_error_stands_directly_below(self):
        for name in NAMES:
            with self.subTest(name):
                self.assertEqual(getattr(errors, name).__bases__, (errors.UnmissedError,))

    def test_no_other_error_is_there(self):
        found = [name for name, value in vars(errors).items() if isinstance(value, type)]
        self.assertEqual(sorted(found), sorted(NAMES + ["UnmissedError"]))

    def test_any_value_is_kept(self):
        for name in ["UnmissedError"] + NAMES:
            error = getattr(errors, name)
            for value in VALUES + [Book(SHOP), Book(SHOP)["shop"]]:
                with self.subTest(name, value=value):
                    self.assertIs(error(value).value, value)
                    self.assertIs(error(value=value).value, value)

    def test_the_value_is_kept_when_raised(self):
        for name in NAMES:
            with self.subTest(name):
                with self.assertRaises(ValueError) as caught:
                    raise getattr(errors, name)([name])
                self.assertEqual(caught.exception.value, [name])

    def test_just_one_value_is_taken(self):
        for name in ["UnmissedError"] + NAMES:
            with self.subTest(name):
                self.assertRaises(TypeError, getattr(errors, name))
                self.assertRaises(TypeError, getattr(errors, name), 1, 2)


INTERFACE = {
    unmissed.editing: "forwarded(book, client, old, new) shut_out(book, client, door) without(book, client) "
                      "joined(one, other)",
    unmissed.days: "first_stand(book, client) turns(book, door, client, stand, state) "
                   "happens(book, door, client, day, stand, turn) lived(book, door, life)",
    unmissed.reports: "is_report(book, value) is_history(book, value) days_of(book, history) folded(book, reports) "
                      "fits(book, door, history, life)",
    unmissed.fitting: "can_be(book, door, history) shows_can_be(book, door, history, value) "
                      "stands(book, door, history, client) within(book, door, one, other) "
                      "shows_within(book, door, one, other, value)",
    unmissed.asking: "still_asked(book, door, history) shows_still_asked(book, door, history, value)",
    unmissed.harming: "harm(book, door, history) shows_harm(book, door, history, value) harmed(book, door, history) "
                      "hurts(book, door, history, plan) shows_hurts(book, door, history, plan, value)",
    unmissed.waiting: "wait(book, door, history, report) shows_wait(book, door, history, report, value)",
    unmissed.plans: "enough(book, door, history, plan) shows_enough(book, door, history, plan, value) "
                    "cheapest(book, door, history, offers, *, gentle=False) "
                    "shows_cheapest(book, door, history, offers, value, *, gentle=False)",
    unmissed.parting: "parted(book, one, other, door, state, eyes) "
                      "shows_parted(book, one, other, door, state, eyes, value)",
    unmissed.texts: "show_report(report) read_report(book, text)",
    unmissed.journals: "read_journal(lines)",
}
METHODS = {
    unmissed.books.Book: "__init__(self, text) worth(self, calendar, day) moment(self, day) __eq__(self, other) "
                         "__len__(self) __contains__(self, value) __getitem__(self, name)",
    unmissed.books.Client: "__eq__(self, other)",
    unmissed.watches.Watch: "__init__(self, book, door) go_on(self, report) __setitem__(self, day, report) "
                            "__iadd__(self, history) __len__(self) __getitem__(self, day) __contains__(self, report) "
                            "stands(self, client) still_asked(self) harm(self) harmed(self) wait(self, report) "
                            "enough(self, plan) may_go(self) undo(self) redo(self) trial(self) keep(self) "
                            "tried(self, look, *, keep=False) copy(self) __eq__(self, other) within(self, other)",
    unmissed.desk.Desk: "__init__(self, lines) say(self, line)",
}


class InterfaceTest(unittest.TestCase):
    def rows(self, text):
        """Each name with what stands in its brackets."""
        return [row.split("(") for row in text[:-1].split(") ")]

    def test_names_are_defined_where_they_are_listed(self):
        for name in ["UnmissedError"] + NAMES:
            self.assertEqual(getattr(errors, name).__module__, "unmissed.errors")
        for module, text in INTERFACE.items():
            for name, parameters in self.rows(text):
                with self.subTest(name):
                    function = getattr(module, name)
                    self.assertTrue(inspect.isfunction(function))
                    self.assertEqual(function.__module__, module.__name__)
                    self.assertEqual(str(inspect.signature(function)), f"({parameters})")
        for kind, name in ((unmissed.books.Book, "books"), (unmissed.books.Client, "books"),
                           (unmissed.watches.Watch, "watches"), (unmissed.desk.Desk, "desk")):
            self.assertEqual(kind.__module__, f"unmissed.{name}")

    def test_methods_stand_in_the_class_itself(self):
        for kind, text in METHODS.items():
            for name, parameters in self.rows(text):
                with self.subTest(name):
                    self.assertIn(name, vars(kind))
                    self.assertEqual(str(inspect.signature(vars(kind)[name])), f"({parameters})")


if __name__ == "__main__":
    unittest.main()
