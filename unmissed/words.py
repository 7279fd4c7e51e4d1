"""Names and figures, the words that stand in the lines of a book."""

LETTERS = "abcdefghijklmnopqrstuvwxyz"
FIGURES = "0123456789"
LONGEST_NAME = 8


def is_made_of(text, signs):
    """Whether each sign of a text is one of these."""
    return all([sign in signs for sign in text])


def is_name(word):
    """Whether a word is a name."""
    return 1 <= len(word) <= LONGEST_NAME and is_made_of(word, LETTERS)


def read_figure(word, low, high):
    """The integer from low to high, at most 99, that a word writes; None if it writes none."""
    # int would raise an error of its own on thousands of figures.
    if not 1 <= len(word) <= 2 or not is_made_of(word, FIGURES):
        return None
    number = int(word)
    if str(number) != word or not low <= number <= high:
        return None
    return number
