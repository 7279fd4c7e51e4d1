"""Statements: what a copy does on a waking day.

A read statement is a tuple (word, facts, blocks). The facts:
set (number of the cell, expression), tell and if (expression,),
ask (door, number of the cell or None), repeat (N,), others ().
The blocks: if (first, second), ask (the else's,), repeat (its own,),
others (). A block is a tuple of statements, () where there is none.
"""

from unmissed.expressions import read_expression
from unmissed.values import names_of
from unmissed.words import read_figure

MOST_STATEMENTS = 14
DEEPEST = 4
# Those of a day are one deep, and stand two steps behind the left edge.
STEPS_AHEAD = 1


class Scope:
    """The names that may stand in the statements of a client."""

    def __init__(self, book, cells, users):
        self.doors = names_of(book.doors)
        self.cells = {row[0]: at for at, row in enumerate(cells)}
        self.names = {row[0]: ("calendar", row[1]) for row in book.calendars}
        for at, row in enumerate(cells):
            self.names[row[0]] = ("cell", at)
        for at, row in enumerate(users):
            self.names[row[0]] = ("user", at)


def read_set(words, scope):
    """The facts of `set` that the words behind it write; None if they write none."""
    if not words or words[0] not in scope.cells:
        return None
    expression = read_expression(" ".join(words[1:]), scope.names)
    if expression is None:
        return None
    return scope.cells[words[0]], expression


def read_worth(words, scope):
    """The facts of `tell` or `if` that the words behind it write; None if they write none."""
    expression = read_expression(" ".join(words), scope.names)
    if expression is None:
        return None
    return (expression,)


def read_ask(words, scope):
    """The facts of `ask` that the words behind it write; None if they write none."""
    if not words or words[0] not in scope.doors:
        return None
    if len(words) == 1:
        return words[0], None
    if len(words) > 2 or words[1] not in scope.cells:
        return None
    return words[0], scope.cells[words[1]]


def read_repeat(words):
    """The facts of `repeat` that the words behind it write; None if they write none."""
    many = read_figure(" ".join(words), 2, 3)
    if many is None:
        return None
    return (many,)


def read_facts(words, scope):
    """The facts of the statement that the words of a line write; None if they write none."""
    word = words[0]
    if word == "set":
        return read_set(words[1:], scope)
    if word in ("tell", "if"):
        return read_worth(words[1:], scope)
    if word == "ask":
        return read_ask(words[1:], scope)
    if word == "repeat":
        return read_repeat(words[1:])
    if words in (["cry"], ["stop"], ["rest"]):
        return ()
    return None


class DayReader:
    """Reads the block of a client's day off a page."""

    def __init__(self, page, scope):
        self.page = page
        self.scope = scope
        self.many = 0

    def read_block(self, depth):
        """The block that comes next, its statements being so deep."""
        statements = [self.read_statement(depth)]
        while self.page.words(depth + STEPS_AHEAD):
            statements.append(self.read_statement(depth))
        return tuple(statements)

    def read_statement(self, depth):
        """The statement that comes next, being so deep, with its blocks."""
        words = self.page.words(depth + STEPS_AHEAD)
        facts = None
        if words and depth <= DEEPEST and self.many < MOST_STATEMENTS:
            facts = read_facts(words, self.scope)
        self.page.take(facts is not None)
        self.many += 1
        return words[0], facts, self.read_blocks(words[0], depth)

    def read_blocks(self, word, depth):
        """The blocks that belong to the statement that was just taken."""
        if word == "if":
            first = self.read_block(depth + 1)
            return first, self.read_else(depth)
        if word == "ask":
            return (self.read_else(depth),)
        if word == "repeat":
            return (self.read_block(depth + 1),)
        return ()

    def read_else(self, depth):
        """The block of the else that comes next, being so deep; () if none comes."""
        if self.page.words(depth + STEPS_AHEAD) != ["else"]:
            return ()
        self.page.take(True)
        return self.read_block(depth + 1)


def read_day(page, scope):
    """The line `day` and the block below it: the block."""
    page.take(page.words(1) == ["day"])
    reader = DayReader(page, scope)
    return reader.read_block(1)


def asked_doors(block):
    """The doors of all ask statements of a block, those within others too."""
    doors = []
    for word, facts, blocks in block:
        if word == "ask":
            doors.append(facts[0])
        for part in blocks:
            doors.extend(asked_doors(part))
    return doors
