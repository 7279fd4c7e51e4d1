"""What tests of several functions ask of wrong arguments, and of any values that are no results."""

from tests.samples import ODD_VALUES, raised

OPEN = ("open", ())
WRONG = ODD_VALUES + [0, (1,), "open", ((0, OPEN),), ((1, "open"),), [(1, OPEN)]]


class OrderMixin:
    """For a TestCase: each wrong argument raises its error, with the value, ahead of those of the arguments behind."""

    def assert_order(self, function, right, names, wrong=WRONG, given=lambda value: value):
        """right are arguments that raise nothing, names those of their errors, None for those that raise none.

        given tells, of a wrong value, what the error keeps.
        """
        for at, name in enumerate(names):
            for value in wrong if name is not None else ():
                with self.subTest(at=at, value=value):
                    for arguments in ((*right[:at], value, *right[at + 1:]), (*right[:at], *[value] * len(right[at:]))):
                        got = raised(function, *arguments)
                        self.assertEqual(got[0], name)
                        self.assertIs(got[1], value)

    def assert_none_shown(self, shows, words):
        """Of values of each kind, and of these words with such values behind them, none is a result."""
        values = WRONG + [(), ((),), ("",), (None, None), [[]]] + list(words) + [(word,) for word in words]
        for word in words:
            for odd in WRONG + [(), ((),)]:
                values += [(word, odd), (odd, word), (word, odd, odd), (word, odd, odd, odd), [word, odd],
                           (word, odd, odd, odd, odd, odd), ((word,), odd)]
        for value in values:
            with self.subTest(value=value):
                self.assertIs(shows(value), False)
