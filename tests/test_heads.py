"""Section 4: the lines of calendars, doors and clients, up to the line `day`."""

import unittest

from unmissed.books import Book
from tests.samples import FULL, SHOP, WEEK, book_of, client, fault

BAD_FIGURES = ["01", "00", "x", "-1", "+2", "2.0", "", "2 ", " 2", "9" * 5000, "always"]


def with_calendars(*lines):
    return "\n".join(list(lines) + ["door price 2"] + client("shop", "  day", "    rest"))


def with_doors(*lines):
    return "\n".join(list(lines) + client("shop", "  day", "    rest"))


def with_rows(*lines):
    """Line 6 is the first of these lines."""
    return book_of(*client("shop", *lines, "  day", "    rest"))


def with_line(at, line):
    """A right book of eight lines, one of which, counted from 1, is this."""
    lines = with_rows("  cell x 2").split("\n")
    lines[at - 1] = line
    return "\n".join(lines)


class TextTest(unittest.TestCase):
    def test_books_that_the_document_shows(self):
        self.assertEqual(Book(SHOP).text, SHOP)
        self.assertEqual(Book(text=WEEK).text, WEEK)
        self.assertEqual(Book(FULL).text, FULL)

    def test_no_string(self):
        for value in (None, 0, 7, True, (), (SHOP,), [SHOP], {}, {SHOP: 1}, Book(SHOP), Book(SHOP)["shop"]):
            with self.subTest(value=value):
                self.assertEqual(fault(value), 0)

    def test_empty_lines(self):
        self.assertEqual(fault(""), 1)
        self.assertEqual(fault("\n" + SHOP), 1)
        self.assertEqual(fault(SHOP + "\n"), 12)
        self.assertEqual(fault(SHOP.replace("\n", "\n\n")), 2)

    def test_each_missing_end(self):
        ends = {8, 10, 11}
        lines = SHOP.split("\n")
        for many in range(1, len(lines) + 1):
            with self.subTest(many):
                expected = None if many in ends else many + 1
                self.assertEqual(fault("\n".join(lines[:many])), expected)

    def test_each_line_spoiled(self):
        for text in (SHOP, WEEK, FULL):
            lines = text.split("\n")
            for at, line in enumerate(lines):
                for spoiled in (line + " ", " " + line, line + " x y", "\t" + line, line + "\t", "", "  ",
                                " " * 12 + line, line.replace(" ", "\t"), line.upper(), "nonsense"):
                    with self.subTest(line=at + 1, spoiled=spoiled):
                        text = "\n".join(lines[:at] + [spoiled] + lines[at + 1:])
                        self.assertEqual(fault(text), at + 1)

    def test_words_with_two_blanks_between(self):
        lines = WEEK.split("\n")
        for at, line in enumerate(lines):
            words = line.split(" ")
            for cut in range(1, len(words)):
                if words[cut - 1]:
                    wide = " ".join(words[:cut]) + "  " + " ".join(words[cut:])
                    with self.subTest(wide):
                        self.assertEqual(fault("\n".join(lines[:at] + [wide] + lines[at + 1:])), at + 1)

    def test_the_first_fault_counts(self):
        lines = SHOP.split("\n")
        lines[8] = lines[4] = "nonsense"
        self.assertEqual(fault("\n".join(lines)), 5)

    def test_lines_out_of_the_sequence(self):
        right = with_rows("  cell x 2", "  user u 2")
        lines = right.split("\n")
        self.assertIsNone(fault(right))
        # A user may stand where a cell stood, and a day where a user stood: there the second line is the fault.
        for at, number in enumerate([1, 2, 3, 4, 5, 7, 8, 8]):
            with self.subTest(at):
                turned = lines[:at] + [lines[at + 1], lines[at]] + lines[at + 2:]
                self.assertEqual(fault("\n".join(turned)), number)
        self.assertEqual(fault("door price 2\ncalendar week 7\n" + "\n".join(lines[1:])), 2)

    def test_missing_lines(self):
        lines = with_rows().split("\n")
        for at in range(len(lines) - 1):
            with self.subTest(at):
                self.assertEqual(fault("\n".join(lines[:at] + lines[at + 1:])), at + 1)


class CalendarTest(unittest.TestCase):
    def test_sizes(self):
        for size in range(2, 13):
            self.assertEqual(Book(with_calendars(f"calendar week {size}")).rounds, size)
        for word in ["0", "1", "13", "20"] + BAD_FIGURES:
            with self.subTest(word):
                self.assertEqual(fault(with_calendars(f"calendar week {word}")), 1)

    def test_how_many(self):
        self.assertEqual(Book(with_calendars()).calendars, ())
        self.assertEqual(Book(with_calendars()).rounds, 1)
        two = ("calendar week 7", "calendar odd 2")
        self.assertEqual(Book(with_calendars(*two)).calendars, (("week", 7), ("odd", 2)))
        self.assertEqual(fault(with_calendars(*two, "calendar two 2")), 3)

    def test_rounds_are_the_least_common_multiple(self):
        for one in range(2, 13):
            for other in range(2, 13):
                rounds = next(n for n in range(1, 200) if n % one == 0 and n % other == 0)
                text = with_calendars(f"calendar a {one}", f"calendar b {other}")
                with self.subTest(one=one, other=other):
                    if rounds > 30:
                        self.assertEqual(fault(text), 2)
                    else:
                        self.assertEqual(Book(text).rounds, rounds)

    def test_rounds_at_the_bound_and_beyond(self):
        self.assertEqual(Book(with_calendars("calendar a 10", "calendar b 6")).rounds, 30)
        self.assertEqual(Book(with_calendars("calendar a 12", "calendar b 12")).rounds, 12)
        self.assertEqual(fault(with_calendars("calendar a 4", "calendar b 8", "calendar c 2")), 3)
        self.assertEqual(fault(with_calendars("calendar a 11", "calendar b 3")), 2)

    def test_names(self):
        for name in ("a", "calendar", "abcdefgh", "door", "same"):
            self.assertIsNone(fault(with_calendars(f"calendar {name} 2")))
        for name in ("", "abcdefghi", "A", "aB", "a1", "a_b", "1", "a-b", "a.", "week/"):
            with self.subTest(name):
                self.assertEqual(fault(with_calendars(f"calendar {name} 2")), 1)
        self.assertEqual(fault(with_calendars("calendar week 2", "calendar week 3")), 2)

    def test_words(self):
        for line in ("calendar", "calendar week", "calendar week 2 3", "calendars week 2", "  calendar week 2"):
            with self.subTest(line):
                self.assertEqual(fault(with_calendars(line)), 1)


class DoorTest(unittest.TestCase):
    def test_sizes(self):
        for size in (1, 2, 3):
            self.assertEqual(Book(with_doors(f"door price {size}")).doors, (("price", size),))
        for word in ["0", "4"] + BAD_FIGURES:
            with self.subTest(word):
                self.assertEqual(fault(with_doors(f"door price {word}")), 1)

    def test_how_many(self):
        self.assertEqual(fault(with_doors()), 1)
        two = ("door price 2", "door stock 1")
        self.assertEqual(Book(with_doors(*two)).doors, (("price", 2), ("stock", 1)))
        self.assertEqual(fault(with_doors(*two, "door third 1")), 3)

    def test_names(self):
        self.assertEqual(fault(with_doors("door price 2", "door price 1")), 2)
        self.assertEqual(fault(with_doors("door Price 2")), 1)
        self.assertEqual(fault(with_doors("door pricelist 2")), 1)

    def test_a_door_may_have_the_name_of_a_calendar_a_client_or_a_cell(self):
        lines = ["calendar week 7", "door week 2", "door shop 2"] + client("shop", "  cell shop 2")
        self.assertIsNone(fault("\n".join(lines + ["  day", "    ask shop shop", "    tell week"])))


class ClientLinesTest(unittest.TestCase):
    def test_how_many(self):
        block = ["  day", "    rest"]
        clients = [client(name, *block) for name in ("a", "b", "c", "d")]
        for many in (1, 2, 3):
            lines = [line for lines in clients[:many] for line in lines]
            self.assertEqual(len(Book(book_of(*lines))), many)
        self.assertEqual(fault(book_of(*[line for lines in clients for line in lines])), 20)
        self.assertEqual(fault("door price 2"), 2)

    def test_names(self):
        self.assertEqual(fault(with_line(2, "client pricewar")), None)
        for line in ("client", "client pricewars", "client Shop", "client shop 2", "client ", "  client shop"):
            with self.subTest(line):
                self.assertEqual(fault(with_line(2, line)), 2)
        twice = book_of(*client("a", "  day", "    rest"), *client("a", "  day", "    rest"))
        self.assertEqual(fault(twice), 8)

    def test_begins(self):
        for many in range(13):
            self.assertEqual(Book(with_line(3, f"  begins until {many}"))["shop"].begins, many)
        self.assertIsNone(Book(with_line(3, "  begins always"))["shop"].begins)
        for words in ["13", "until", "until always", "until 13", "never", "3"]:
            with self.subTest(words):
                self.assertEqual(fault(with_line(3, "  begins " + words)), 3)
        for word in BAD_FIGURES:
            with self.subTest(word):
                self.assertEqual(fault(with_line(3, "  begins until " + word)), 3)

    def test_lives(self):
        for many in range(1, 13):
            self.assertEqual(Book(with_line(4, f"  lives {many}"))["shop"].lives, many)
        self.assertIsNone(Book(with_line(4, "  lives always"))["shop"].lives)
        for word in ["0", "13", "until 3", "always 3"] + BAD_FIGURES[:-1]:
            with self.subTest(word):
                self.assertEqual(fault(with_line(4, "  lives " + word)), 4)

    def test_sleeps(self):
        for many in range(4):
            self.assertEqual(Book(with_line(5, f"  sleeps {many}"))["shop"].sleeps, many)
        self.assertIsNone(Book(with_line(5, "  sleeps always"))["shop"].sleeps)
        for word in ["4", "always 3", "until 3"] + BAD_FIGURES[:-1]:
            with self.subTest(word):
                self.assertEqual(fault(with_line(5, "  sleeps " + word)), 5)

    def test_one(self):
        rest = ["  sleeps 0", "  day", "    rest"]
        self.assertIsNone(fault(book_of("client a", "  one", *rest)))
        self.assertEqual(fault(book_of("client a", "  one 1", *rest)), 3)
        self.assertEqual(fault(book_of("client a", "  one", "  lives always", *rest)), 4)
        self.assertEqual(fault(book_of("client a", "  begins always", "  one", *rest)), 4)
        self.assertEqual(fault(book_of("client a", "  one", *rest, "client b", "  one", *rest)), 8)
        mixed = book_of("client a", "  one", *rest, *client("b", *rest[1:]), "client c", "  one", *rest)
        self.assertEqual(fault(mixed), 14)

    def test_day(self):
        for line in ("  day 1", "  days", "day", "    day", "  Day"):
            with self.subTest(line):
                self.assertEqual(fault(with_line(7, line)), 7)

    def test_nothing_stands_behind_the_block_but_a_client(self):
        text = with_rows()
        for line in ("  day", "  cell x 2", "  sleeps 0", "door stock 2", "calendar week 2", "      rest", "rest"):
            with self.subTest(line):
                self.assertEqual(fault(text + "\n" + line), 8)


class CellTest(unittest.TestCase):
    def test_sizes(self):
        for size in (2, 3, 29, 30):
            self.assertEqual(Book(with_rows(f"  cell x {size}"))["shop"].cells, (("x", size),))
        for word in ["0", "1", "31", "99", "100"] + BAD_FIGURES:
            with self.subTest(word):
                self.assertEqual(fault(with_rows(f"  cell x {word}")), 6)

    def test_product(self):
        for sizes in ((30, 2), (2, 30), (12, 5), (3, 4, 5), (2, 2, 15), (7, 8)):
            lines = [f"  cell {name} {size}" for name, size in zip("xyz", sizes)]
            self.assertEqual(Book(with_rows(*lines))["shop"].cells, tuple(zip("xyz", sizes)))
        for sizes in ((30, 3), (8, 8), (61,), (2, 30, 2), (3, 4, 6), (7, 3, 3)):
            lines = [f"  cell {name} {size}" for name, size in zip("xyz", sizes)]
            with self.subTest(sizes):
                self.assertEqual(fault(with_rows(*lines)), 5 + len(sizes))

    def test_how_many(self):
        lines = [f"  cell {name} 2" for name in "wxyz"]
        self.assertEqual(Book(with_rows())["shop"].cells, ())
        self.assertIsNone(fault(with_rows(*lines[:3])))
        self.assertEqual(fault(with_rows(*lines)), 9)

    def test_names(self):
        self.assertEqual(fault(with_rows("  cell x 2", "  cell x 3")), 7)
        self.assertEqual(fault(with_rows("  cell X 2")), 6)
        self.assertEqual(fault("calendar week 7\n" + with_rows("  cell week 2")), 7)
        self.assertIsNone(fault("calendar week 7\n" + with_rows("  cell price 2", "  cell shop 2")))

    def test_each_client_has_names_of_its_own(self):
        lines = client("a", "  cell x 2", "  user u 2", "  day", "    rest")
        others = client("b", "  cell u 2", "  user x 2", "  day", "    rest")
        self.assertIsNone(fault(book_of(*lines, *others)))


class UserTest(unittest.TestCase):
    def test_sizes(self):
        for size in (2, 3):
            self.assertEqual(Book(with_rows(f"  user u {size}"))["shop"].users, (("u", size, 0),))
        for word in ["0", "1", "4"] + BAD_FIGURES:
            with self.subTest(word):
                self.assertEqual(fault(with_rows(f"  user u {word}")), 6)

    def test_within(self):
        for many in (1, 2, 3, 4):
            self.assertEqual(Book(with_rows(f"  user u 3 within {many}"))["shop"].users, (("u", 3, many),))
        for word in ["0", "5", "1 2"] + BAD_FIGURES:
            with self.subTest(word):
                self.assertEqual(fault(with_rows(f"  user u 2 within {word}")), 6)
        for words in ("within", "with 2", "2", "within within 2"):
            with self.subTest(words):
                self.assertEqual(fault(with_rows(f"  user u 2 {words}")), 6)

    def test_how_many(self):
        lines = [f"  user {name} 2" for name in "uvw"]
        self.assertIsNone(fault(with_rows(*lines[:2])))
        self.assertEqual(fault(with_rows(*lines)), 8)

    def test_names(self):
        self.assertEqual(fault(with_rows("  user u 2", "  user u 3")), 7)
        self.assertEqual(fault(with_rows("  cell u 2", "  user u 3")), 7)
        self.assertEqual(fault("calendar week 7\n" + with_rows("  user week 2")), 7)
        self.assertEqual(fault("calendar week 7\n" + with_rows("  user week 2 within 2")), 7)
        self.assertIsNone(fault(with_rows("  user price 2", "  user shop 2")))


if __name__ == "__main__":
    unittest.main()
