"""Section 4: what Books and Clients tell."""

import unittest

from unmissed.books import Book, Client
from unmissed.errors import BadBook, BadDay, BadName, NoClient
from tests.samples import FULL, SHOP, WEEK, book_of, client

NO_NAMES = [None, 0, 1, True, -3, "", "price", "SHOP", "shop ", ("shop",), ["shop"], {"shop": 1}, {}, ((),)]
NO_DAYS = [None, -1, True, False, "", "3", (3,), [3], {}, -10 ** 17]
BLOCK = ["  day", "    rest"]


def until(name, many):
    return [f"client {name}", f"  begins until {many}", "  lives 2", "  sleeps 0", *BLOCK]


class ExampleTest(unittest.TestCase):
    def test_the_example_of_section_4(self):
        book = Book(SHOP)
        told = [book.doors, book.rounds, book.settled, book.moment(9), book["shop"].asks, book["shop"].cells,
                "price" in book]
        self.assertEqual(told, [(("price", 2),), 1, 4, 4, ("price",), (("kept", 2),), False])


class BookTest(unittest.TestCase):
    def test_properties(self):
        book = Book(FULL)
        self.assertEqual(book.text, FULL)
        self.assertEqual(book.calendars, (("odd", 2), ("week", 5)))
        self.assertEqual(book.doors, (("price", 3), ("stock", 1)))
        self.assertEqual(book.clients, ("a", "b", "pricewar"))
        self.assertEqual(book.rounds, 10)
        self.assertEqual(book.settled, 13)

    def test_clients_stand_by_their_lines(self):
        book = Book(book_of(*client("z", *BLOCK), *client("a", *BLOCK), *client("m", *BLOCK)))
        self.assertEqual(book.clients, ("z", "a", "m"))

    def test_settled(self):
        one = ["client one", "  one", "  sleeps 0", *BLOCK]
        always = client("b", *BLOCK)
        self.assertEqual(Book(book_of(*always)).settled, 0)
        self.assertEqual(Book(book_of(*one)).settled, 1)
        self.assertEqual(Book(book_of(*always, *one)).settled, 1)
        self.assertEqual(Book(book_of(*until("c", 0))).settled, 1)
        self.assertEqual(Book(book_of(*until("c", 12))).settled, 13)
        self.assertEqual(Book(book_of(*one, *until("c", 0))).settled, 1)
        self.assertEqual(Book(book_of(*one, *until("c", 4), *until("d", 3))).settled, 5)
        self.assertEqual(Book(book_of(*until("c", 3), *always, *until("d", 4))).settled, 5)

    def test_worth(self):
        book = Book(FULL)
        for day in list(range(40)) + [10 ** 17]:
            self.assertEqual(book.worth("odd", day), day % 2)
            self.assertEqual(book.worth(day=day, calendar="week"), day % 5)

    def test_worth_of_what_is_no_calendar(self):
        for value in NO_NAMES + ["week", "kept", "shop", "same"]:
            with self.subTest(value=value):
                with self.assertRaises(BadName) as caught:
                    Book(SHOP).worth(value, 3)
                self.assertEqual(caught.exception.value, value)
        for value in NO_NAMES + ["stock", "a", "pull", "Week"]:
            with self.subTest(value=value):
                with self.assertRaises(BadName) as caught:
                    Book(FULL).worth(value, -1)
                self.assertEqual(caught.exception.value, value)

    def test_worth_on_what_is_no_day(self):
        for value in NO_DAYS:
            with self.subTest(value=value):
                with self.assertRaises(BadDay) as caught:
                    Book(FULL).worth("odd", value)
                self.assertIs(caught.exception.value, value)

    def test_moment(self):
        book = Book(FULL)
        expected = list(range(13)) + [13 + n % 10 for n in range(40)]
        self.assertEqual([book.moment(day) for day in range(53)], expected)
        self.assertEqual(Book(WEEK).moment(day=3), 3)
        self.assertEqual([Book(WEEK).moment(day) for day in (4, 10, 11, 12)], [4, 10, 4, 5])
        always = Book(book_of(*client("b", *BLOCK)))
        self.assertEqual([always.moment(day) for day in (0, 1, 10 ** 17)], [0, 0, 0])

    def test_moment_of_what_is_no_day(self):
        for value in NO_DAYS + [Book(SHOP)]:
            with self.subTest(value=value):
                with self.assertRaises(BadDay) as caught:
                    Book(FULL).moment(value)
                self.assertIs(caught.exception.value, value)

    def test_equality(self):
        self.assertTrue(Book(SHOP) == Book(SHOP))
        self.assertFalse(Book(SHOP) != Book(SHOP))
        self.assertFalse(Book(SHOP) == Book(WEEK))
        self.assertFalse(Book(SHOP) == Book(SHOP.replace("kept 2", "kept 3")))
        for value in (SHOP, None, 0, True, (), ("shop",), Book(SHOP)["shop"], {"shop": 1}):
            self.assertFalse(Book(SHOP) == value)
            self.assertTrue(Book(SHOP) != value)

    def test_length(self):
        self.assertEqual([len(Book(SHOP)), len(Book(FULL))], [1, 3])

    def test_contains(self):
        book = Book(SHOP)
        self.assertIs("shop" in book, True)
        for value in NO_NAMES + [book, book["shop"], SHOP, "kept"]:
            with self.subTest(value=value):
                self.assertIs(value in book, False)
        self.assertEqual([name for name in ("a", "b", "c", "pricewar", "price") if name in Book(FULL)],
                         ["a", "b", "pricewar"])

    def test_a_client_by_its_name(self):
        book = Book(FULL)
        for name in book.clients:
            self.assertIsInstance(book[name], Client)
            self.assertEqual(book[name].name, name)

    def test_no_client(self):
        book = Book(SHOP)
        for value in NO_NAMES + [book, book["shop"], slice(0, 1), "kept"]:
            with self.subTest(value=value):
                with self.assertRaises(NoClient) as caught:
                    book[value]
                self.assertIs(caught.exception.value, value)

    def test_what_raises_changes_nothing(self):
        book = Book(FULL)
        for ask in (lambda: book["none"], lambda: book.worth("odd", -1), lambda: book.moment(None)):
            self.assertRaises(ValueError, ask)
        self.assertEqual(book, Book(FULL))
        self.assertEqual([book[name].asks for name in book.clients], [("price", "stock"), (), ("stock",)])

    def test_a_bad_book_keeps_the_number(self):
        with self.assertRaises(BadBook) as caught:
            Book(text="nonsense")
        self.assertEqual(caught.exception.value, 1)


class ClientTest(unittest.TestCase):
    def told(self, one):
        return [one.name, one.begins, one.lives, one.sleeps, one.is_one, one.cells, one.users, one.asks]

    def test_properties(self):
        book = Book(FULL)
        self.assertEqual(self.told(book["a"]), ["a", 0, None, None, True, (("x", 2), ("y", 30)),
                                                (("press", 2, 0), ("pull", 3, 4)), ("price", "stock")])
        self.assertEqual(self.told(book["b"]), ["b", None, 12, 3, False, (), (), ()])
        self.assertEqual(self.told(book["pricewar"]), ["pricewar", 12, 1, 0, False, (("a", 30), ("stock", 2)), (),
                                                       ("stock",)])
        for name in book.clients:
            self.assertIs(book[name].book, book)

    def test_the_first_text(self):
        shop = Book(WEEK)["shop"]
        self.assertEqual(self.told(shop), ["shop", 3, None, 0, False, (("kept", 2), ("left", 5)),
                                           (("press", 2, 3),), ("price",)])

    def test_kinds_of_values(self):
        book = Book(FULL)
        for name in book.clients:
            one = book[name]
            self.assertIs(type(one.is_one), bool)
            for value in (one.cells, one.users, one.asks):
                self.assertIs(type(value), tuple)
        for value in (book.calendars, book.doors, book.clients):
            self.assertIs(type(value), tuple)

    def test_text(self):
        book = Book(FULL)
        lines = FULL.split("\n")
        self.assertEqual(book["a"].text, "\n".join(lines[4:21]))
        self.assertEqual(book["b"].text, "\n".join(lines[21:27]))
        self.assertEqual(book["pricewar"].text, "\n".join(lines[27:]))
        self.assertEqual(Book(SHOP)["shop"].text, "\n".join(SHOP.split("\n")[1:]))

    def test_equality(self):
        book = Book(FULL)
        self.assertTrue(book["a"] == Book(FULL)["a"])
        self.assertFalse(book["a"] != Book(FULL)["a"])
        self.assertFalse(book["a"] == book["b"])
        other = Book(FULL.replace("tell 30", "tell 29"))
        self.assertEqual(other["a"].text, book["a"].text)
        self.assertFalse(other["a"] == book["a"])
        for value in ("a", book["a"].text, book, None, 0, ("a",)):
            self.assertFalse(book["a"] == value)
            self.assertTrue(book["a"] != value)


if __name__ == "__main__":
    unittest.main()
