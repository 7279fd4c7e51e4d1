"""Books changed: each function returns a new book."""

from unmissed.books import Book
from unmissed.errors import Clash, LastClient, TooMany, Unlike
from unmissed.heads import MOST_CLIENTS
from unmissed.pages import STEP, blanks_ahead
from unmissed.values import check_door


def made_of(book, texts):
    """The book with the calendars and the doors of this one, and the clients of these texts."""
    lines = book.text.split("\n")[:len(book.calendars) + len(book.doors)]
    return Book("\n".join(lines + texts))


def rewritten(book, client, lines):
    """The book in which this client has these lines."""
    texts = []
    for name in book.clients:
        texts.append("\n".join(lines) if name == client else book[name].text)
    return made_of(book, texts)


def is_ask(line, door):
    """Whether a line asks this door."""
    return line.lstrip(" ").split(" ")[:2] == ["ask", door]


def forwarded_line(line, old, new):
    """The line that asks the door new if this one asks the door old, otherwise this one."""
    if not is_ask(line, old):
        return line
    blanks, _, behind = line.partition("ask " + old)
    return f"{blanks}ask {new}{behind}"


def forwarded(book, client, old, new):
    """The book in which each ask of the door old by this client is one of the door new."""
    lines = book[client].text.split("\n")
    check_door(book, old)
    check_door(book, new)
    return rewritten(book, client, [forwarded_line(line, old, new) for line in lines])


def end_of_block(lines, first, blanks):
    """The number of the first line, from this one on, that stands no deeper than so many blanks."""
    at = first
    while at < len(lines) and blanks_ahead(lines[at]) > blanks:
        at += 1
    return at


def shut_lines(lines, door):
    """The lines in which, for each ask of the door, there stands what is done when it is shut."""
    out = []
    at = 0
    while at < len(lines):
        line = lines[at]
        at += 1
        if not is_ask(line, door):
            out.append(line)
            continue
        blanks = blanks_ahead(line)
        if lines[at:at + 1] == [" " * blanks + "else"]:
            end = end_of_block(lines, at + 1, blanks)
            out.extend(shut_lines([inner[STEP:] for inner in lines[at + 1:end]], door))
            at = end
        else:
            out.append(" " * blanks + "rest")
    return out


def shut_out(book, client, door):
    """The book in which this client does at each ask of the door what it does when it is shut."""
    lines = book[client].text.split("\n")
    check_door(book, door)
    return rewritten(book, client, shut_lines(lines, door))


def without(book, client):
    """The book without the lines of this client."""
    name = book[client].name
    if len(book) == 1:
        raise LastClient(name)
    return made_of(book, [book[other].text for other in book.clients if other != name])


def has_one(book):
    """Whether a client of the book has the line `one`."""
    return any([book[name].is_one for name in book.clients])


def joined(one, other):
    """The book with the lines of one and, behind them, those of the clients of other."""
    if one.calendars != other.calendars or one.doors != other.doors:
        raise Unlike(other)
    is_taken = has_one(one)
    for name in other.clients:
        if name in one or (is_taken and other[name].is_one):
            raise Clash(name)
    if len(one) + len(other) > MOST_CLIENTS:
        raise TooMany(MOST_CLIENTS)
    return Book("\n".join([one.text] + [other[name].text for name in other.clients]))
