"""Runs by their logs: the log that is due of a row's run, and where another one isn't that."""

from greatrows.errors import Fault, NoList, NotShut, Over, TooMuch, Waits
from greatrows.plain import MOST_OF_LEAF, OPEN, check_asked, plain_told
from greatrows.rows import row_of
from greatrows.shelves import fresh_shelf


def log_due(plan, shelf, many):
    """The log of a shelf as new, on which a row of the plan told so many things, or ended, and was closed."""
    _, word = plain_told(plan, shelf, many)
    if word == OPEN:
        raise Waits(MOST_OF_LEAF)
    fresh = fresh_shelf(shelf)
    row = row_of(plan, fresh)
    while row.told_many() < many and not row.is_over():
        try:
            row.ask()
        except (Over, Fault, TooMuch, Waits):
            # Behind Waits a row goes on; behind all else it is over.
            pass
    try:
        row.close()
    except NotShut:
        # What didn't shut well stands in the log.
        pass
    return fresh.log()


def first_unlike(plan, shelf, many, log):
    """The number of the first row of the log that isn't the due one, or None."""
    check_asked(plan, shelf, many)
    if not isinstance(log, (list, tuple)):
        raise NoList(log)
    due = log_due(plan, shelf, many)
    for at, row in enumerate(log):
        if at == len(due) or not _is_like(row, due[at]):
            return at
    return len(log) if len(log) < len(due) else None


def _is_like(row, due):
    # A truth is equal to a number, but it is none.
    return row == due and not any([isinstance(part, bool) for part in row])
