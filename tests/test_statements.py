"""Section 4: the statements of a day, their depths and their expressions."""

import re
import unittest
from itertools import product

from unmissed.books import Book
from tests.chance import Maker, spoiled
from tests.samples import DAY_LINE, WEEK, book_of, client, day_of, fault


LEAF = re.compile(r"\b(x|y|u|week|[0-9]|[12][0-9]|30)\b(?!\()")
CALL = re.compile(r"\b(?:(?:same|less|and|or)\(<(\d)>, <(\d)>\)|(?:not|more|fewer)\(<(\d)>\))")


def naive_depth(text):
    """How deep the expression is that a text writes in the day of day_of; None if it writes none."""
    left, ahead = LEAF.sub("<1>", text), None
    while left != ahead:
        ahead = left
        left = CALL.sub(lambda found: f"<{1 + max(int(depth) for depth in found.groups() if depth)}>", left)
    found = re.fullmatch("<([0-9])>", left)
    return int(found.group(1)) if found else None


class StatementTest(unittest.TestCase):
    def assert_right(self, *lines):
        with self.subTest(lines):
            self.assertIsNone(fault(day_of(*lines)))

    def assert_fault(self, at, *lines):
        """The fault is the line of this number, counted from 1, of the day."""
        with self.subTest(lines):
            self.assertEqual(fault(day_of(*lines)), DAY_LINE - 1 + at)

    def test_plain_words(self):
        for word in ("cry", "stop", "rest"):
            self.assert_right(word)
            self.assert_right(word, "cry")
            for line in (word + " 1", word + " x", word + "s", word + " " + word):
                self.assert_fault(1, line)
        for word in ("", "else", "pass", "day", "cell x 2", "client a", "Cry"):
            self.assert_fault(1, word)

    def test_set(self):
        for line in ("set x 0", "set y 30", "set x same(y, u)", "set x week", "set y y"):
            self.assert_right(line)
        for line in ("set", "set x", "set x ", "set x 31", "set u 1", "set week 1", "set z 1", "set price 1",
                     "set x z", "set x 1 1", "set 1 x", "set  x 1", "set x  1", "set same(x, y) 1"):
            self.assert_fault(1, line)

    def test_tell(self):
        for line in ("tell 0", "tell x", "tell u", "tell week", "tell less(x, 3)"):
            self.assert_right(line)
        for line in ("tell", "tell ", "tell price", "tell shop", "tell 31", "tell x y", "tell cry", "tell x "):
            self.assert_fault(1, line)

    def test_ask(self):
        for line in ("ask price", "ask stock", "ask price x", "ask stock y"):
            self.assert_right(line)
        for line in ("ask", "ask ", "ask shop", "ask week", "ask x", "ask price u", "ask price week",
                     "ask price 1", "ask price z", "ask price x y", "ask price more(x)", "ask  price"):
            self.assert_fault(1, line)

    def test_repeat(self):
        for many in (2, 3):
            self.assert_right(f"repeat {many}", "  rest")
        for word in ("", " ", " 0", " 1", " 4", " 02", " x", " 2 2", " more(1)", " 2 ", " " + "3" * 5000):
            self.assert_fault(1, "repeat" + word, "  rest")

    def test_if(self):
        for word in ("0", "x", "u", "week", "not(x)"):
            self.assert_right("if " + word, "  rest")
        for word in ("", " ", " z", " price", " x y", " 31", " x "):
            self.assert_fault(1, "if" + word, "  rest")

    def test_blocks_that_are_missing(self):
        for line in ("if x", "repeat 2"):
            self.assert_fault(2, line)
            self.assert_fault(2, line, "rest")
            self.assert_fault(2, line, "else", "  rest")
            self.assert_fault(2, line, "    rest")
            self.assert_fault(2, line, "")
        self.assert_fault(4, "if x", "  rest", "else")
        self.assert_fault(4, "if x", "  rest", "else", "rest")
        self.assert_fault(3, "ask price", "else")
        self.assert_fault(3, "ask price", "else", "rest")
        self.assertEqual(fault(day_of()), DAY_LINE)
        other = "\n" + "\n".join(client("b", "  day", "    rest"))
        self.assertEqual(fault(day_of() + other), DAY_LINE)
        self.assertEqual(fault(day_of("if x") + other), DAY_LINE + 1)

    def test_else(self):
        self.assert_right("if x", "  rest", "else", "  cry")
        self.assert_right("ask price x", "else", "  cry", "rest")
        self.assert_right("if x", "  ask price", "else", "  cry")
        self.assert_right("if x", "  ask price", "  else", "    rest", "else", "  cry")
        self.assert_right("ask price", "else", "  ask price", "  else", "    rest", "ask price", "else", "  rest")
        self.assert_right("if x", "  if y", "    rest", "else", "  rest")
        self.assert_fault(1, "else", "  rest")
        self.assert_fault(2, "cry", "else", "  rest")
        self.assert_fault(3, "repeat 2", "  rest", "else", "  rest")
        self.assert_fault(5, "if x", "  rest", "else", "  rest", "else", "  rest")
        self.assert_fault(4, "ask price", "else", "  rest", "else", "  rest")
        self.assert_fault(3, "ask price", "cry", "else", "  rest")
        self.assert_fault(4, "if x", "  rest", "cry", "else", "  rest")
        self.assert_fault(2, "ask price", "  else", "    rest")
        self.assert_fault(3, "if x", "  rest", "  else", "    rest")
        for line in ("else 1", "else if x", "else ", "Else", "elses"):
            self.assert_fault(3, "if x", "  rest", line, "  rest")

    def test_lines_too_deep(self):
        for line in ("cry", "ask price", "set x 1"):
            self.assert_fault(2, line, "  rest")
        self.assert_fault(1, "  rest")
        self.assert_fault(3, "if x", "  rest", "    rest")
        self.assert_fault(2, "rest", " rest")

    def test_four_deep(self):
        for line in ("if x", "repeat 2", "if not(y)"):
            self.assert_right(line, "  " + line, "    " + line, "      rest", "      cry")
            self.assert_fault(5, line, "  " + line, "    " + line, "      " + line, "        rest")
            self.assert_fault(5, line, "  " + line, "    " + line, "      " + line, "      rest")
            self.assert_fault(5, line, "  " + line, "    " + line, "      " + line)
        self.assert_right("ask price", "else", "  if x", "    rest", "  else", "    repeat 2", "      ask stock")
        self.assert_fault(6, "if x", "  if x", "    if x", "      ask price", "      else", "        rest")

    def test_fourteen_statements(self):
        self.assert_right(*["rest"] * 14)
        self.assert_fault(15, *["rest"] * 15)
        self.assert_right(*["if x", "  rest", "else", "  rest"], *["ask price", "else", "  rest"], *["cry"] * 9)
        self.assert_fault(17, *["if x", "  rest", "else", "  rest"], *["ask price", "else", "  rest"], *["cry"] * 10)
        self.assert_fault(15, *["rest"] * 13, "if x", "  rest")
        self.assert_fault(16, *["rest"] * 13, "ask price", "else", "  rest")
        self.assert_right(*["rest"] * 12, "repeat 3", "  rest")

    def test_each_client_has_fourteen_statements_of_its_own(self):
        block = ["  day"] + ["    rest"] * 14
        self.assertIsNone(fault(book_of(*client("a", *block), *client("b", *block), *client("c", *block))))
        self.assertEqual(fault(book_of(*client("a", *block), *client("b", *block, "    rest"))), 1 + 19 + 19 + 1)


class ExpressionTest(unittest.TestCase):
    def assert_all_right(self, *texts):
        for text in texts:
            for word in ("tell", "if", "set x"):
                with self.subTest(text, word=word):
                    self.assertIsNone(fault(day_of(f"{word} {text}", "  rest" * (word == "if")).rstrip()))

    def assert_all_wrong(self, *texts):
        for text in texts:
            for word in ("tell", "if", "set x"):
                with self.subTest(text, word=word):
                    self.assertEqual(fault(day_of(f"{word} {text}", "  rest")), DAY_LINE)

    def test_figures(self):
        self.assert_all_right(*[str(number) for number in range(31)])
        self.assert_all_wrong("31", "99", "100", "00", "01", "-1", "+1", "1.0", "1_0", "0x1", "3" * 5000)

    def test_names(self):
        self.assert_all_right("x", "y", "u", "week")
        self.assert_all_wrong("z", "X", "price", "stock", "shop", "xy", "x y", "same", "x1", "always")

    def test_functions(self):
        self.assert_all_right("same(x, y)", "less(0, 30)", "and(u, week)", "or(x, x)")
        self.assert_all_right("not(x)", "more(week)", "fewer(0)")
        for word in ("same", "less", "and", "or"):
            self.assert_all_wrong(f"{word}(x)", f"{word}()", f"{word}(x, y, u)", f"{word}(x,)", f"{word}(, x)")
        for word in ("not", "more", "fewer"):
            self.assert_all_wrong(f"{word}(x, y)", f"{word}()", f"{word}(x, )", f"{word}")
        self.assert_all_wrong("xor(x, y)", "Same(x, y)", "x(y)", "(x)", "()", "min(x, y)")

    def test_blanks_and_brackets(self):
        self.assert_all_wrong("same(x,y)", "same(x,  y)", "same(x , y)", "same( x, y)", "same(x, y )",
                              "same (x, y)", "not( x)", "not(x )", " x", "x ", "not(x) ", "same(x,\ty)")
        self.assert_all_wrong("not(x", "not x)", "not(x))", "not((x)", "not((x))", "same(not(x, y)",
                              "same(x), y)", "not(x)(y)", "not(x), y", "not(xx", "same(x, yy", "not(x,", "not(x]", "same(x, y)z", ", x", "x,", "),(")

    def test_a_bracket_left_open(self):
        # Behind as many parts as the function wants there is something more.
        self.assert_all_wrong("not(0, (0)", "more(1, ()", "fewer(2, not(0)", "same(0, 1, same(0, 1)", "and(x, y, (x)",
                              "not(same(0, 1), same(0, 1)", "more(x, same(x, 0)", "not(1, less(0, 1)",
                              "less(1, 2, or(x, (3)", "not(x, same(0, not(1)", "or(x, y, x, (y, x)", "more(x, y, ((x)",
                              "not(x, x(y)")
        # Within another function; with too few parts ahead; with nothing that is open but the function itself.
        self.assert_all_wrong("same(not(0, (0), 1)", "not(not(0, (0))", "same(0, not(1, (1)", "same(x, not(y, not(x))",
                              "same(0, (1)", "same(0, same(0, 1)", "same(not(0, 1)", "not((0)", "not(not(0)",
                              "not(0", "not(0, ", "same(0, 1, ", "same(0, 1", "same(0, 1, not(", "not(0, (")
        self.assert_all_right("not(0)", "more(1)", "fewer(not(0))", "same(0, same(0, 1))", "not(same(0, 1))",
                              "less(1, or(x, 3))", "not(same(0, not(1)))", "same(more(x), same(x, 0))")

    def test_by_chance_and_by_short_texts(self):
        """What is an expression is told a second time: by what is left of a text if its parts are put together."""
        tokens = ("not(", "same(", "(", ")", ", ", "x", "3")
        texts = ["".join(part) for many in range(1, 6) for part in product(tokens, repeat=many)]
        signs = ("(", ")", ", ", ", (", "not(", "same(x, ", "0", "x", "z", "31", " ")
        for number in range(3000):
            maker = Maker(number)
            text = maker.expression(["x", "y", "u", "week"], 4)
            texts += [text] + [spoiled(text, maker, signs) for _ in range(5)]
        many = 0
        for text in texts:
            depth = naive_depth(text)
            is_right = depth is not None and depth <= 4
            many += is_right
            self.assertEqual(fault(day_of("tell " + text)), None if is_right else DAY_LINE, text)
        self.assertGreater(many, 3000)

    def test_parts_within_parts(self):
        self.assert_all_right("same(and(x, y), or(u, week))", "less(x, same(less(x, y), not(u)))",
                              "not(same(not(x), more(y)))", "same(more(3), fewer(less(1, 2)))")
        self.assert_all_wrong("same(and(x, y), or(u, z))", "less(x, same(less(x, y), not(31)))",
                              "not(same(not(x), more(y, x)))", "same(and(x, y), or(u))")

    def test_four_deep(self):
        self.assert_all_right("not(not(not(x)))", "not(more(fewer(0)))", "same(x, and(x, or(x, 3)))",
                              "same(and(or(x, 3), x), x)")
        self.assert_all_wrong("not(not(not(not(x))))", "same(x, and(x, or(x, not(3))))",
                              "same(and(or(not(3), x), x), x)", "not(" * 1400 + "x" + ")" * 1400)

    def test_many_commas(self):
        self.assert_all_wrong("same(" + "x, " * 1900 + "x)", "same((" + "x, " * 1900 + "x)")

    def test_words_of_the_language_as_names(self):
        words = ["same", "else", "within"]
        heads = [f"  cell {word} 2" for word in words] + ["  user not 2", "  user always 2", "  day"]
        lines = ["    set else same(same, not(not))", "    ask ask else", "    else", "      tell within",
                 "    tell always"]
        self.assertIsNone(fault("\n".join(["door ask 2"] + client("client", *heads, *lines))))

    def test_names_of_another_client_do_not_count(self):
        first = client("a", "  cell x 2", "  day", "    tell x")
        for line in ("tell x", "set x 1", "ask price x"):
            self.assertEqual(fault(book_of(*first, *client("b", "  day", "    " + line))), 14)

    def test_names_of_a_later_line_do_not_count(self):
        first = client("a", "  day", "    tell x")
        second = client("b", "  cell x 2", "  day", "    tell x")
        self.assertEqual(fault(book_of(*first, *second)), 7)


class ReadTest(unittest.TestCase):
    def test_what_is_read_of_a_day(self):
        self.assertEqual(Book(WEEK)["shop"].day, (
            ("if", (("same", ("cell", 1), ("figure", 0)),), (
                (("ask", ("price", 0), ((("cry", (), ()),),)), ("set", (1, ("figure", 4)), ())),
                (("set", (1, ("fewer", ("cell", 1))), ()),))),
            ("tell", (("cell", 0),), ())))
        self.assertEqual(Book(day_of("tell and(week, u)", "ask stock", "repeat 3", "  stop"))["shop"].day, (
            ("tell", (("and", ("calendar", 7), ("user", 0)),), ()),
            ("ask", ("stock", None), ((),)),
            ("repeat", (3,), ((("stop", (), ()),),))))
        self.assertEqual(Book(day_of("if 1", "  rest"))["shop"].day,
                         (("if", (("figure", 1),), ((("rest", (), ()),), ())),))


class AsksTest(unittest.TestCase):
    def asks(self, *lines):
        return Book(day_of(*lines))["shop"].asks

    def test_asks(self):
        self.assertEqual(self.asks("rest"), ())
        self.assertEqual(self.asks("ask price"), ("price",))
        self.assertEqual(self.asks("ask stock", "ask price y", "ask stock x"), ("price", "stock"))

    def test_asks_within_others(self):
        self.assertEqual(self.asks("if x", "  ask stock"), ("stock",))
        self.assertEqual(self.asks("if x", "  rest", "else", "  ask stock"), ("stock",))
        self.assertEqual(self.asks("repeat 2", "  ask stock"), ("stock",))
        self.assertEqual(self.asks("ask stock", "else", "  repeat 3", "    ask price"), ("price", "stock"))


if __name__ == "__main__":
    unittest.main()
