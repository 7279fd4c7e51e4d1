"""Expressions: their forms, and what is read from them.

A read expression is a tuple: ("figure", N), what its scope tells of a name,
or a function's word and, behind it, the expressions that it is given.
"""

from unmissed.words import read_figure

DEEPEST = 4
GREATEST_FIGURE = 30
MANY_PARTS = {"same": 2, "less": 2, "and": 2, "or": 2, "not": 1, "more": 1, "fewer": 1}


def split_parts(text):
    """The texts between the commas of a text, but for the commas that stand within brackets.

    Joined by commas they are the text again: behind a bracket that is left open, all that follows is one of them.
    """
    parts = []
    held = []
    for piece in text.split(", "):
        held.append(piece)
        part = ", ".join(held)
        if part.count("(") <= part.count(")"):
            parts.append(part)
            held = []
    if held:
        parts.append(", ".join(held))
    return parts


def read_expression(text, names, deepest=DEEPEST):
    """The expression that a text writes, names telling what each name is; None if it writes none."""
    if text in names:
        return names[text]
    figure = read_figure(text, 0, GREATEST_FIGURE)
    if figure is not None:
        return "figure", figure
    if deepest == 1:
        return None
    return read_call(text, names, deepest - 1)


def read_call(text, names, deepest):
    """The function and its parts, each at most so deep, that a text writes; None if it writes none."""
    word, _, behind = text.partition("(")
    if word not in MANY_PARTS or not behind.endswith(")"):
        return None
    texts = split_parts(behind[:-1])
    if len(texts) != MANY_PARTS[word]:
        return None
    parts = [read_expression(part, names, deepest) for part in texts]
    if None in parts:
        return None
    return (word, *parts)
