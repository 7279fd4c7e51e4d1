"""Section 2: the errors, and the names of the interface that have landed."""

import unittest

import unmissed.asking
import unmissed.books
import unmissed.days
import unmissed.editing
import unmissed.fitting
import unmissed.harming
import unmissed.parting
import unmissed.plans
import unmissed.reports
import unmissed.waiting
from unmissed import errors
from unmissed.books import Book
from tests.samples import SHOP

NAMES = """BadBook BadName BadDay NoClient LastClient Unlike Clash TooMany BadDoor BadStand BadState BadTurn
BadLife BadHistory BadReport CannotBe BadPlan BadOffers BadTruth UnlikeClients BadEyes NoDay NothingToUndo
NothingToRedo NoTrial BadText BadLines BadLine""".split()

VALUES = [0, -1, 10 ** 17, True, None, "", "some words", ("a", 1), [1, [2]], {"a": {}}]


class ErrorsTest(unittest.TestCase):
    def test_unmissed_error_derives_from_value_error(self):
        self.assertEqual(errors.UnmissedError.__bases__, (ValueError,))

    def test_each_error_stands_directly_below(self):
        for name in NAMES:
            with self.subTest(name):
                self.assertEqual(getattr(errors, name).__bases__, (errors.UnmissedError,))

    def test_no_other_error_is_there(self):
        found = [name for name, value in vars(errors).items() if isinstance(value, type)]
        self.assertEqual(sorted(found), sorted(NAMES + ["UnmissedError"]))

    def test_any_value_is_kept(self):
        for name in ["UnmissedError"] + NAMES:
            error = getattr(errors, name)
            for value in VALUES + [Book(SHOP), Book(SHOP)["shop"]]:
                with self.subTest(name, value=value):
                    self.assertIs(error(value).value, value)
                    self.assertIs(error(value=value).value, value)

    def test_the_value_is_kept_when_raised(self):
        for name in NAMES:
            with self.subTest(name):
                with self.assertRaises(ValueError) as caught:
                    raise getattr(errors, name)([name])
                self.assertEqual(caught.exception.value, [name])

    def test_just_one_value_is_taken(self):
        for name in ["UnmissedError"] + NAMES:
            with self.subTest(name):
                self.assertRaises(TypeError, getattr(errors, name))
                self.assertRaises(TypeError, getattr(errors, name), 1, 2)


class InterfaceTest(unittest.TestCase):
    def assert_defined(self, module, names):
        for name in names:
            with self.subTest(name):
                self.assertEqual(getattr(module, name).__module__, module.__name__)

    def test_names_are_defined_where_they_are_listed(self):
        self.assert_defined(errors, ["UnmissedError"] + NAMES)
        self.assert_defined(unmissed.books, ["Book", "Client"])
        self.assert_defined(unmissed.editing, ["forwarded", "shut_out", "without", "joined"])
        self.assert_defined(unmissed.days, ["first_stand", "turns", "happens", "lived"])
        self.assert_defined(unmissed.reports, ["is_report", "is_history", "days_of", "folded", "fits"])
        self.assert_defined(unmissed.fitting, ["can_be", "shows_can_be", "stands", "within", "shows_within"])
        self.assert_defined(unmissed.asking, ["still_asked", "shows_still_asked"])
        self.assert_defined(unmissed.harming, ["harm", "shows_harm", "harmed", "hurts", "shows_hurts"])
        self.assert_defined(unmissed.waiting, ["wait", "shows_wait"])
        self.assert_defined(unmissed.plans, ["enough", "shows_enough", "cheapest", "shows_cheapest"])
        self.assert_defined(unmissed.parting, ["parted", "shows_parted"])

    def test_methods_stand_in_the_class_itself(self):
        for name in ("worth", "moment", "__eq__", "__len__", "__contains__", "__getitem__"):
            self.assertIn(name, vars(unmissed.books.Book))
        self.assertIn("__eq__", vars(unmissed.books.Client))


if __name__ == "__main__":
    unittest.main()
