"""Books written again by what was read of them, so that nothing of a text is passed over."""


def expression_text(read, names):
    """names has the names of the cells and users by their numbers, and of the calendars by their sizes."""
    word = read[0]
    if word == "figure":
        return str(read[1])
    if word in names:
        return names[word][read[1]]
    return word + "(" + ", ".join(expression_text(part, names) for part in read[1:]) + ")"


def statement_lines(statement, names, ahead):
    word, facts, blocks = statement
    told = {"set": lambda: [names["cell"][facts[0]], expression_text(facts[1], names)],
            "tell": lambda: [expression_text(facts[0], names)], "if": lambda: [expression_text(facts[0], names)],
            "ask": lambda: [facts[0]] + ([] if facts[1] is None else [names["cell"][facts[1]]]),
            "repeat": lambda: [str(facts[0])]}.get(word, list)()
    lines = [ahead + " ".join([word] + told)]
    if word in ("if", "repeat"):
        lines += block_lines(blocks[0], names, ahead + "  ")
    if word in ("if", "ask") and blocks[-1]:
        lines += [ahead + "else"] + block_lines(blocks[-1], names, ahead + "  ")
    return lines


def block_lines(block, names, ahead):
    return [line for statement in block for line in statement_lines(statement, names, ahead)]


def client_lines(client):
    lines = [f"client {client.name}"]
    if client.is_one:
        lines.append("  one")
    else:
        lines.append("  begins " + ("always" if client.begins is None else f"until {client.begins}"))
        lines.append("  lives " + ("always" if client.lives is None else str(client.lives)))
    lines.append("  sleeps " + ("always" if client.sleeps is None else str(client.sleeps)))
    lines += [f"  cell {name} {size}" for name, size in client.cells]
    lines += [f"  user {name} {size}" + (f" within {many}" if many else "") for name, size, many in client.users]
    names = {"cell": [name for name, _ in client.cells], "user": [row[0] for row in client.users],
             "calendar": {size: name for name, size in client.book.calendars}}
    return lines + ["  day"] + block_lines(client.day, names, "    ")


def book_text(book):
    """The text of a book whose calendars, if there are two, have other sizes than one another."""
    lines = [f"calendar {name} {size}" for name, size in book.calendars]
    lines += [f"door {name} {size}" for name, size in book.doors]
    return "\n".join(lines + [line for name in book.clients for line in client_lines(book[name])])
