"""Reports as texts: `STATE EARS`."""

from unmissed.errors import BadReport, BadText
from unmissed.reports import has_form, is_report

NO_EARS_SIGN = "-"


def show_report(report):
    """The text of a report."""
    if not has_form(report):
        raise BadReport(report)
    state, ears = report
    told = ",".join(["/".join(ear) for ear in ears])
    return f"{state} {told or NO_EARS_SIGN}"


def report_of(book, text):
    """The report that a text writes; None for any value that writes none."""
    if not isinstance(text, str):
        return None
    state, _, told = text.partition(" ")
    ears = []
    if told != NO_EARS_SIGN:
        ears = [tuple(ear.split("/")) for ear in told.split(",")]
    report = (state, tuple(ears))
    return report if is_report(book, report) else None


def read_report(book, text):
    """The report that is written so."""
    report = report_of(book, text)
    if report is None:
        raise BadText(text)
    return report
