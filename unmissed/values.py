"""Questions about the values that callers hand in."""

from unmissed.errors import BadDoor


def is_integer(value):
    """Whether any value is an integer; a bool is none."""
    return isinstance(value, int) and not isinstance(value, bool)


def is_day(value):
    """Whether any value is a day."""
    return is_integer(value) and value >= 0


def names_of(rows):
    """The names that stand first in each of these rows."""
    return [row[0] for row in rows]


def check_door(book, door):
    """Raises BadDoor for what is no door of the book."""
    if door not in names_of(book.doors):
        raise BadDoor(door)
