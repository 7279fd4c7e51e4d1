"""Section 13: books changed."""

import unittest

from unmissed.books import Book
from unmissed.editing import forwarded, joined, shut_out, without
from unmissed.errors import BadDoor, Clash, LastClient, NoClient, TooMany, Unlike
from tests.samples import FULL, SHOP, WEEK, book_of, client

BLOCK = ["  day", "    rest"]
NO_NAMES = [None, 0, 1, True, "", "nobody", "SHOP", ("shop",), ["shop"], ["price"], {"price": 2}, ("price", 2)]


def two_doors(*lines):
    """A book with two doors and two clients that do the same; the first one is shop."""
    head = ["calendar week 7", "door price 2", "door stock 3"]
    day = ["  cell x 2", "  cell ask 5", "  day"] + ["    " + line for line in lines]
    return Book("\n".join(head + client("shop", *day) + client("twin", *day)))


def day_lines(book, name):
    """The lines of the client's day, at the left edge."""
    lines = book[name].text.split("\n")
    return [line[4:] for line in lines[lines.index("  day") + 1:]]


class EditingTest(unittest.TestCase):
    def assert_raises(self, error, value, call, *values, **named):
        with self.subTest(values=values, named=named):
            with self.assertRaises(error) as caught:
                call(*values, **named)
            self.assertIs(caught.exception.value, value)


class ForwardedTest(EditingTest):
    def test_each_ask_of_the_door(self):
        book = two_doors("ask price x", "else", "  ask price", "  else", "    ask stock ask", "if x", "  ask stock",
                         "repeat 2", "  ask price ask", "  tell ask")
        text = book.text
        found = forwarded(book, "shop", "price", "stock")
        self.assertEqual(day_lines(found, "shop"), [
            "ask stock x", "else", "  ask stock", "  else", "    ask stock ask", "if x", "  ask stock",
            "repeat 2", "  ask stock ask", "  tell ask"])
        self.assertEqual(day_lines(found, "twin"), day_lines(book, "twin"))
        self.assertEqual(found["shop"].asks, ("stock",))
        self.assertEqual(found["twin"].asks, ("price", "stock"))
        self.assertEqual((book.text, book), (text, Book(text)))

    def test_the_other_way(self):
        book = two_doors("ask price x", "ask stock ask")
        self.assertEqual(day_lines(forwarded(book, "twin", "stock", "price"), "twin"), ["ask price x", "ask price ask"])
        self.assertEqual(day_lines(forwarded(book, "twin", "stock", "price"), "shop"), ["ask price x", "ask stock ask"])

    def test_all_other_lines_stay(self):
        book = two_doors("ask price x", "tell x")
        found = forwarded(book, "shop", "price", "stock").text.split("\n")
        expected = book.text.split("\n")
        expected[expected.index("    ask price x")] = "    ask stock x"
        self.assertEqual(found, expected)

    def test_books_in_which_nothing_changes(self):
        book = two_doors("ask price x")
        for old, new in (("price", "price"), ("stock", "price"), ("stock", "stock")):
            self.assertEqual(forwarded(book=book, client="shop", old=old, new=new), book)
        self.assertEqual(forwarded(Book(SHOP), "shop", "price", "price"), Book(SHOP))

    def test_names_that_look_alike(self):
        lines = ["door ask 1", "door asks 2"]
        text = "\n".join(lines + client("ask", "  cell ask 2", "  cell asks 2", "  day", "    ask ask ask",
                                        "    ask asks ask", "    ask asks", "    ask ask", "    set ask ask"))
        found = forwarded(Book(text), "ask", "ask", "asks")
        self.assertEqual(day_lines(found, "ask"),
                         ["ask asks ask", "ask asks ask", "ask asks", "ask asks", "set ask ask"])
        found = forwarded(Book(text), "ask", "asks", "ask")
        self.assertEqual(day_lines(found, "ask"), ["ask ask ask", "ask ask ask", "ask ask", "ask ask", "set ask ask"])
        self.assertEqual(found.text.split("\n")[:8], text.split("\n")[:8])

    def test_errors(self):
        book = two_doors("ask price")
        for value in NO_NAMES + ["price", book, book["shop"]]:
            self.assert_raises(NoClient, value, forwarded, book, value, "price", "stock")
            self.assert_raises(NoClient, value, forwarded, book, value, value, value)
        for value in NO_NAMES + ["shop", "week", "x", book]:
            self.assert_raises(BadDoor, value, forwarded, book, "shop", value, "price")
            self.assert_raises(BadDoor, value, forwarded, book, "shop", "price", value)
            self.assert_raises(BadDoor, value, forwarded, book=book, client="shop", old=value, new=None)
        self.assertEqual(book, two_doors("ask price"))


class ShutOutTest(EditingTest):
    def test_the_example_of_section_13(self):
        book = Book(SHOP)
        self.assertEqual(shut_out(book, "shop", "price").text.split("\n")[7:], ["    cry", "    tell kept"])
        self.assertEqual(book.text, SHOP)

    def assert_shut(self, lines, door, expected):
        with self.subTest(lines):
            book = two_doors(*lines)
            text = book.text
            found = shut_out(book, "shop", door)
            self.assertEqual(day_lines(found, "shop"), expected)
            self.assertEqual(found["twin"].text, book["twin"].text)
            self.assertEqual(found.text.split("\n")[:10], text.split("\n")[:10])
            self.assertNotIn(door, found["shop"].asks)
            self.assertEqual((book.text, book), (text, Book(text)))

    def test_without_an_else(self):
        self.assert_shut(["ask price"], "price", ["rest"])
        self.assert_shut(["ask price x", "tell x"], "price", ["rest", "tell x"])
        self.assert_shut(["if x", "  ask price", "else", "  ask price ask"], "price",
                         ["if x", "  rest", "else", "  rest"])
        self.assert_shut(["repeat 2", "  repeat 2", "    repeat 2", "      ask price"], "price",
                         ["repeat 2", "  repeat 2", "    repeat 2", "      rest"])

    def test_with_an_else(self):
        self.assert_shut(["ask price", "else", "  if x", "    cry", "  else", "    stop", "  tell 1", "tell 2"],
                         "price", ["if x", "  cry", "else", "  stop", "tell 1", "tell 2"])
        self.assert_shut(["if x", "  ask price", "  else", "    cry", "else", "  cry"], "price",
                         ["if x", "  cry", "else", "  cry"])
        self.assert_shut(["ask price", "else", "  if x", "    cry", "if x", "  rest", "else", "  cry"],
                         "price", ["if x", "  cry", "if x", "  rest", "else", "  cry"])

    def test_the_other_door_stays(self):
        lines = ["ask stock ask", "else", "  ask price", "  else", "    ask stock", "ask price"]
        self.assert_shut(lines, "price", ["ask stock ask", "else", "  ask stock", "rest"])
        self.assert_shut(lines, "stock", ["ask price", "else", "  rest", "ask price"])

    def test_asks_within_asks(self):
        self.assert_shut(["ask price", "else", "  ask price", "  else", "    ask price", "    else", "      cry"],
                         "price", ["cry"])
        self.assert_shut(["ask price", "else", "  ask price", "  tell 1", "tell 2"], "price",
                         ["rest", "tell 1", "tell 2"])
        self.assert_shut(["ask price", "else", "  tell 0", "  ask price x", "  else", "    tell 1", "    ask price",
                          "  tell 2", "ask price", "else", "  repeat 3", "    ask price", "    else", "      cry"],
                         "price", ["tell 0", "tell 1", "rest", "tell 2", "repeat 3", "  cry"])

    def test_books_in_which_nothing_changes(self):
        book = two_doors("ask price x", "set ask 1")
        self.assertEqual(shut_out(book=book, client="twin", door="stock"), book)

    def test_fourteen_statements(self):
        self.assert_shut(["ask price"] * 14, "price", ["rest"] * 14)
        self.assert_shut(["ask price", "else", "  cry"] * 7, "price", ["cry"] * 7)

    def test_errors(self):
        book = two_doors("ask price")
        for value in NO_NAMES + ["price", book]:
            self.assert_raises(NoClient, value, shut_out, book, value, "price")
            self.assert_raises(NoClient, value, shut_out, book, value, value)
        for value in NO_NAMES + ["shop", "week", "x", book]:
            self.assert_raises(BadDoor, value, shut_out, book, "shop", value)
            self.assert_raises(BadDoor, value, shut_out, book=book, client="shop", door=value)
        self.assertEqual(book, two_doors("ask price"))


class WithoutTest(EditingTest):
    def test_each_client(self):
        lines = FULL.split("\n")
        book = Book(FULL)
        self.assertEqual(without(book, "a").text, "\n".join(lines[:4] + lines[21:]))
        self.assertEqual(without(book, "b").text, "\n".join(lines[:21] + lines[27:]))
        self.assertEqual(without(book=book, client="pricewar").text, "\n".join(lines[:27]))
        self.assertEqual(without(without(book, "b"), "a").clients, ("pricewar",))
        self.assertEqual((book.text, book), (FULL, Book(FULL)))

    def test_the_last_client(self):
        for text in (SHOP, WEEK):
            with self.assertRaises(LastClient) as caught:
                without(Book(text), "shop")
            self.assertEqual(caught.exception.value, "shop")

    def test_no_client(self):
        for value in NO_NAMES + ["price", Book(SHOP)]:
            self.assert_raises(NoClient, value, without, Book(SHOP), value)
            self.assert_raises(NoClient, value, without, Book(FULL), value)


class JoinedTest(EditingTest):
    def book(self, *names, one=None):
        """A book with these clients, of which the one named one has the line `one`."""
        lines = []
        for name in names:
            made = client(name, "  cell x 2", *BLOCK)
            lines.extend([made[0], "  one"] + made[3:] if name == one else made)
        return Book(book_of(*lines))

    def test_two_books(self):
        one, other = Book(SHOP), self.book("a", "b")
        found = joined(one, other)
        self.assertEqual(found.text, SHOP + "\n" + "\n".join(other.text.split("\n")[1:]))
        self.assertEqual(found.clients, ("shop", "a", "b"))
        self.assertEqual(joined(one=other, other=one).clients, ("a", "b", "shop"))
        self.assertEqual((one.text, other), (SHOP, self.book("a", "b")))

    def test_what_was_taken_out_is_put_back(self):
        book = Book(FULL)
        alone = without(without(book, "b"), "a")
        self.assertEqual(joined(without(book, "pricewar"), alone), book)

    def test_one_such_client(self):
        self.assertEqual(joined(self.book("a", one="a"), self.book("b")).clients, ("a", "b"))
        found = joined(self.book("b"), self.book("a", one="a"))
        self.assertEqual([found["a"].is_one, found["b"].is_one, found.settled], [True, False, 1])

    def test_unlike(self):
        text = book_of(*client("b", *BLOCK))
        for head in ("calendar week 7\ndoor price 2", "door price 3", "door stock 2", "door price 2\ndoor stock 2"):
            other = Book(text.replace("door price 2", head))
            self.assert_raises(Unlike, other, joined, Book(SHOP), other)
            self.assert_raises(Unlike, other, joined, one=Book(SHOP), other=other)
        weeks = [Book(f"calendar {line}\n" + text) for line in ("week 7", "week 6", "work 7", "week 7\ncalendar odd 2")]
        for one in weeks:
            for other in weeks:
                if one != other:
                    self.assert_raises(Unlike, other, joined, one, other)

    def test_unlike_goes_ahead_of_the_rest(self):
        other = Book(FULL)
        self.assert_raises(Unlike, other, joined, self.book("a", "b", one="b"), other)

    def assert_clash(self, name, one, other):
        with self.assertRaises(Clash) as caught:
            joined(one, other)
        self.assertEqual(caught.exception.value, name)

    def test_clash_of_names(self):
        self.assert_clash("a", self.book("a"), self.book("a"))
        self.assert_clash("b", self.book("a", "b"), self.book("c", "b", "a"))
        self.assert_clash("shop", Book(SHOP), self.book("a", "b", "shop"))

    def test_clash_of_the_line_one(self):
        self.assert_clash("b", self.book("a", one="a"), self.book("b", one="b"))
        self.assert_clash("c", self.book("a", "b", one="b"), self.book("c", "a", one="c"))
        self.assert_clash("a", self.book("a", "b", one="b"), self.book("a", "c", one="c"))
        self.assert_clash("d", self.book("a", "b", one="b"), self.book("c", "d", "e", one="d"))

    def test_a_client_with_the_line_one_clashes_with_its_name_alone(self):
        self.assert_clash("a", self.book("a"), self.book("a", one="a"))

    def test_too_many(self):
        for one, other in ((["a", "b", "c"], ["d"]), (["a", "b"], ["c", "d"]), (["a"], ["b", "c", "d"])):
            with self.subTest(one=one, other=other):
                with self.assertRaises(TooMany) as caught:
                    joined(self.book(*one), self.book(*other))
                self.assertEqual(caught.exception.value, 3)
        self.assertEqual(len(joined(self.book("a", "b"), self.book("c"))), 3)


if __name__ == "__main__":
    unittest.main()
