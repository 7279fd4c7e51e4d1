"""Small books, histories and wrong values, made by chance from a number, the same ones for the same number."""

import random
import re

from tests.samples import fault

STATES = ("open", "shut", "half")


class Maker:
    def __init__(self, number):
        self.chance = random.Random(number)

    def one_of(self, *things):
        return self.chance.choice(things)

    def expression(self, names, depth):
        kind = self.chance.random()
        if depth == 1 or kind < 0.3:
            return self.one_of(*(names or ["0"]), str(self.chance.randrange(3)))
        word = self.one_of("same", "less", "and", "or", "not", "more", "fewer")
        many = 1 if word in ("not", "more", "fewer") else 2
        return word + "(" + ", ".join(self.expression(names, depth - 1) for _ in range(many)) + ")"

    def block(self, depth, room):
        """Lines of a block; room holds how many statements may still come."""
        lines = []
        for _ in range(self.one_of(1, 1, 2, 2, 3)):
            if room[0] > 0 or not lines:
                room[0] -= 1
                lines += self.statement(depth, room)
        return lines

    def statement(self, depth, room):
        words = ["tell", "cry", "rest", "ask", "ask", "ask"] + ["set"] * 3 * bool(self.cells) + ["stop"]
        if depth < 4 and room[0] > 2:
            words += ["if", "if", "repeat"]
        word, ahead = self.one_of(*words), "  " * (depth + 1)
        if word == "set":
            return [f"{ahead}set {self.one_of(*self.cells)} {self.expression(self.names, 3)}"]
        if word == "tell":
            return [f"{ahead}tell {self.expression(self.names, 2)}"]
        if word == "ask":
            cell = " " + self.one_of(*self.cells) if self.cells and self.chance.random() < 0.7 else ""
            lines = [f"{ahead}ask {self.one_of(*self.doors)}{cell}"]
        elif word == "if":
            lines = [f"{ahead}if {self.expression(self.names, 3)}"] + self.block(depth + 1, room)
        elif word == "repeat":
            return [f"{ahead}repeat {self.one_of(2, 3)}"] + self.block(depth + 1, room)
        else:
            return [ahead + word]
        if depth < 4 and room[0] > 1 and self.chance.random() < 0.5:
            lines += [ahead + "else"] + self.block(depth + 1, room)
        return lines

    def client(self, name, can_be_one, is_small):
        lines = [f"client {name}"]
        if can_be_one:
            lines.append("  one")
        else:
            lines.append("  begins " + self.one_of("always", "until 0", "until 1", "until 2"))
            lines.append("  lives " + self.one_of("always", "always", "1", "2", "3"))
        lines.append("  sleeps " + self.one_of("0", "0", "1", "2", "always"))
        self.cells = self.one_of([], ["x"], ["x"], ["x", "y"])
        lines += [f"  cell {cell} {self.one_of(2, 2, 3)}" for cell in self.cells]
        users = self.one_of([], ["u"]) if is_small else self.one_of([], ["u"], ["u", "w"])
        for user in users:
            lines.append(f"  user {user} {2 if is_small else self.one_of(2, 3)}"
                         + self.one_of("", "", " within 1", " within 2", " within 3"))
        self.names = self.calendars + self.cells + users
        return lines + ["  day"] + self.block(1, [self.one_of(3, 6, 9)])

    def book(self, is_small=True):
        """The text of a book; a small one has few lives."""
        lines, self.calendars = [], self.one_of([], [], ["k"], ["k", "l"])
        lines += [f"calendar {name} {self.one_of(2, 3)}" for name in self.calendars]
        self.doors = self.one_of(["price"], ["price", "stock"])
        sizes = (1, 1, 2) if is_small else (1, 2, 3)
        lines += [f"door {name} {self.one_of(*sizes)}" for name in self.doors]
        many = 1 + (self.chance.random() < 0.5)
        one = self.one_of(0, 1, None, None)
        for at in range(many):
            lines += self.client("ab"[at], at == one, is_small)
        return "\n".join(lines)

    def report(self, clients, many_somes=0.2):
        ears = []
        for ear in ("asks", "cries"):
            if self.chance.random() < 0.25:
                ears.append((ear, "*", "none"))
            for client in clients:
                kind = self.chance.random()
                if kind < many_somes:
                    ears.append((ear, client, "some"))
                elif kind < many_somes + 0.25:
                    ears.append((ear, client, "none"))
        return self.one_of("open", "open", "half", "shut"), tuple(sorted(ears))

    def history(self, clients, days, many_somes=0.2):
        return tuple((1, self.report(clients, many_somes)) for _ in range(days))


def leaves(value):
    """Other values for one that is no tuple."""
    others = [None, True, False, 0, 1, -1, "", "a", (), [], {}]
    if type(value) is int:
        others += [value + 1, value - 1, [value]]
    if type(value) is bool:
        others += [not value, int(value)]
    if type(value) is str:
        others += [value + "s", (value,)]
    return others


def changed(value):
    """Values that differ from this one at just one place."""
    return [other for other in other_ones(value) if repr(other) != repr(value)]


def other_ones(value):
    if type(value) is not tuple:
        yield from leaves(value)
        return
    yield from (list(value), {}, None, True, value + (value,), (value,), value + (None,), ((),) + value)
    for at, part in enumerate(value):
        yield value[:at] + value[at + 1:]
        yield value[:at] + (part,) + value[at:]
        if at:
            yield value[:at - 1] + (part, value[at - 1]) + value[at + 1:]
        for other in changed(part):
            yield value[:at] + (other,) + value[at + 1:]
    yield value[::-1]


def spoiled(text, maker, signs):
    """A text that differs at one place or two: some words or signs are left out, told again, or put in for others.

    What is put in is one of these signs, or stands elsewhere in the text.
    """
    for _ in range(maker.one_of(1, 1, 2)):
        parts = re.findall(maker.one_of("[a-z]+|[0-9]+|.", "."), text, re.DOTALL)
        first, other = (maker.chance.randrange(len(parts) + 1) for _ in range(2))
        many = maker.one_of(0, 1, 1, 1, 2, 5, 20)
        last = first + many
        middle = maker.one_of([], [maker.one_of(*signs)], parts[first:last] * 2, parts[other:other + many])
        text = "".join(parts[:first] + middle + parts[last:])
    return text


class ShutMaker(Maker):
    """Books in which a shut door is seen now and then, late or not at all; two clients are much alike."""

    def statement(self, depth, room):
        ahead, names = "  " * (depth + 1), self.names or ["0"]
        kind = self.chance.random()
        if kind < 0.4:
            cell = " " + self.one_of(*self.cells) if self.cells and self.chance.random() < 0.7 else ""
            lines = [f"{ahead}ask {self.one_of(self.doors[0], *self.doors)}{cell}"]
            if depth < 4 and self.chance.random() < 0.6:
                lines += [ahead + "else"] + self.block(depth + 1, room)
            return lines
        if kind < 0.6 and depth < 3:
            word = self.one_of("", "", "not", "same", "less")
            test = {"": self.one_of(*names), "not": f"not({self.one_of(*names)})"}.get(
                word, f"{word}({self.one_of(*names)}, {self.one_of('1', '2', *names)})")
            lines = [f"{ahead}if {test}"] + self.block(depth + 1, room)
            if self.chance.random() < 0.4:
                lines += [ahead + "else"] + self.block(depth + 1, room)
            return lines
        if kind < 0.85 and self.cells:
            cell = self.one_of(*self.cells)
            return [f"{ahead}set {cell} " + self.one_of("1", "2", f"more({cell})", f"fewer({cell})", *names)]
        return [ahead + self.one_of("rest", "rest", "stop", "cry", "tell " + self.one_of(*names))]

    def client(self, name, can_be_one, is_small):
        lines = super().client(name, can_be_one, is_small)
        if self.chance.random() < 0.6:
            # A copy that asks on some days alone.
            at = lines.index("  day")
            room = [self.one_of(3, 5)]
            test = self.one_of(*[f"same({name}, 1)" for name in self.names] or ["1"])
            lines[at + 1:] = [f"    if {test}"] + self.block(2, room) + self.block(1, [2])
        if self.cells and self.chance.random() < 0.6:
            lines.append("    " + self.one_of("tell", "tell", "if") + " " + self.one_of(*self.cells))
            if lines[-1].startswith("    if"):
                lines.append("      " + self.one_of("cry", "stop"))
        return lines

    def book(self, is_small=True):
        """The second client is often the first one with a statement more or exchanged."""
        while True:
            text = self.one_book(is_small)
            # A day may have too many statements, another one not.
            if fault(text) is None:
                return text

    def one_book(self, is_small):
        lines = super().book(is_small).split("\n")
        firsts = [at for at, line in enumerate(lines) if line.startswith("client ")]
        if self.chance.random() < 0.7:
            lines = lines[:firsts[1]] if len(firsts) > 1 else lines
            twin = lines[firsts[0]:]
            if "  one" in twin:
                twin[twin.index("  one"):twin.index("  one") + 1] = ["  begins always", "  lives always"]
            at = self.chance.randrange(twin.index("  day") + 1, len(twin))
            word = twin[at].strip().split(" ")[0]
            if word in ("tell", "cry", "set", "rest", "stop"):
                twin[at] = twin[at][:len(twin[at]) - len(twin[at].lstrip())] + self.one_of("rest", "cry", "stop")
            else:
                twin.append("    " + self.one_of("rest", "cry", "stop", "tell 1"))
            lines += ["client twin"] + twin[1:]
        return "\n".join(lines)
