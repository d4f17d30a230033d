"""Judging: the four faults, and which of them are met where a work is."""

from elderlogs.errors import InvalidFault
from elderlogs.rows import Ask, End

FAULTS = ("never", "otherwise", "stuck", "twice")


def expect_fault(value):
    """Raise InvalidFault if this, any value, is no fault."""
    if value not in FAULTS:
        raise InvalidFault()


def expect_faults(wanted):
    """Raise InvalidFault if something in this sequence is no fault."""
    for value in wanted:
        expect_fault(value)


def met_faults(due, row, asked, turned):
    """Return the ascending tuple of the faults that are met where the live edition is at a row (None: it is stuck).

    The log has answers to the names in `asked`; `turned` is whether a later edition took over just now, and is told
    otherwise.
    """
    if row is None:
        return ("stuck",)
    # At one row only one of the two can be met, and they come on either side of "otherwise".
    never = isinstance(row, End) and not all([name in asked for name in due])
    twice = isinstance(row, Ask) and row.name in due and row.name in asked
    found = [(never, "never"), (turned, "otherwise"), (twice, "twice")]
    return tuple([fault for met, fault in found if met])


def is_otherwise(ahead, before, row, word):
    """Tell whether a newer edition, at a row with a last word, is told otherwise than the one ahead, with its own."""
    return before != word and isinstance(ahead, Ask) and (isinstance(row, Ask) or isinstance(row, End))
