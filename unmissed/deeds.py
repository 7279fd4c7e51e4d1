"""The lines that tell the deeds of a watch."""

from unmissed.texts import report_of, show_report
from unmissed.words import read_figure

MOST = 60


def day_lines(report):
    """The line of a day more."""
    return (f"day {show_report(report)}",)


def late_lines(day, report):
    """The line of a report that was told late."""
    return (f"late {day} {show_report(report)}",)


def days_lines(history):
    """The lines of a history that was added."""
    return (f"days {len(history)}", *[f"{many} {show_report(report)}" for many, report in history])


def read_numbered(book, text, low):
    """(number, report) that a text `N STATE EARS` writes, N from low to 60; None if it writes none."""
    figure, _, told = text.partition(" ")
    number = read_figure(figure, low, MOST)
    report = report_of(book, told)
    if number is None or report is None:
        return None
    return number, report


def read_row(book, line):
    """The row of a history that a line writes; None if it writes none."""
    return read_numbered(book, line, 1)


def read_deed(book, line):
    """(word, day, report) of a line `day STATE EARS`, day being None, or `late N STATE EARS`; None of others."""
    word, _, told = line.partition(" ")
    if word == "day":
        report = report_of(book, told)
        return None if report is None else (word, None, report)
    numbered = read_numbered(book, told, 0) if word == "late" else None
    return None if numbered is None else (word, *numbered)


def read_many(line):
    """The N of a line `days N`; None of others."""
    word, _, figure = line.partition(" ")
    return read_figure(figure, 0, MOST) if word == "days" else None


def do_deed(watch, deed):
    """Does what read_deed told."""
    word, day, report = deed
    if word == "day":
        watch.go_on(report)
    else:
        watch[day] = report
