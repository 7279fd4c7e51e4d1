"""What a copy does on a waking day."""

from unmissed.values import names_of

CRY = "cry"


def worth_of(word, parts):
    """The worth of a function whose parts have these worths."""
    first, last = parts[0], parts[-1]
    if word == "same":
        return int(first == last)
    if word == "less":
        return int(first < last)
    if word == "and":
        return int(first != 0 and last != 0)
    if word == "or":
        return int(first != 0 or last != 0)
    if word == "not":
        return int(first == 0)
    if word == "more":
        return first + 1
    return max(first - 1, 0)


class Waking:
    """A copy on a waking day: what it holds, and what it did on this day till now."""

    def __init__(self, client, door, day, cells, turn):
        self.sizes = [size for _, size in client.cells]
        self.door = door
        self.today = day
        self.holds = list(cells)
        self.choices, answers, self.is_met = turn
        self.answers = dict(zip(names_of(client.book.doors), answers))
        self.seen = []
        self.has_asked = False
        self.is_gone = False

    def work_out(self, expression):
        """The worth of an expression."""
        word = expression[0]
        if word == "figure":
            return expression[1]
        if word == "calendar":
            return self.today % expression[1]
        if word == "cell":
            return self.holds[expression[1]]
        if word == "user":
            return self.choices[expression[1]]
        return worth_of(word, [self.work_out(part) for part in expression[1:]])

    def hold(self, cell, worth):
        """Lets a cell hold a worth, as far as it goes."""
        self.holds[cell] = min(worth, self.sizes[cell] - 1)

    def ask(self, door, cell, otherwise):
        """Asks a door, and does the block otherwise if it does not answer."""
        if door == self.door:
            self.has_asked = True
            if not self.is_met:
                self.do_block(otherwise)
                return
        if cell is not None:
            self.hold(cell, self.answers[door])

    def do_block(self, block):
        """Does a block, up to its end or to a stop."""
        for word, facts, blocks in block:
            if self.is_gone:
                return
            self.do_statement(word, facts, blocks)

    def do_statement(self, word, facts, blocks):
        """Does one statement, with the blocks that belong to it."""
        if word == "set":
            self.hold(facts[0], self.work_out(facts[1]))
        elif word == "tell":
            self.seen.append(self.work_out(facts[0]))
        elif word == "cry":
            self.seen.append(CRY)
        elif word == "stop":
            self.is_gone = True
        elif word == "if":
            first, second = blocks
            self.do_block(first if self.work_out(facts[0]) != 0 else second)
        elif word == "ask":
            self.ask(facts[0], facts[1], blocks[0])
        elif word == "repeat":
            for _ in range(facts[0]):
                self.do_block(blocks[0])
