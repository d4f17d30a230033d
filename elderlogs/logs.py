"""Logs: the entries of a work, and how an edition plays them."""

from elderlogs.errors import InvalidLog, InvalidText
from elderlogs.names import is_name
from elderlogs.stands import first_stand, next_stand


class Played:
    """Where an edition stands, waits or is stuck behind a log."""

    def __init__(self, stand, stuck):
        place, ways, word = stand
        self.place = place
        self.ways = ways
        self.word = word
        self.stuck = stuck


def log_text(log):
    """Return the text of a log."""
    expect_log(log)
    return "; ".join([" ".join(entry) for entry in log])


def read_log(text):
    """Return the log with this text."""
    if text == "":
        return ()
    return tuple([_read_entry(part, at) for at, part in enumerate(text.split("; "))])


def replay(edition, log):
    """Return what comes of it when an edition plays a log."""
    expect_log(log)
    stand = first_stand(edition)
    for at, entry in enumerate(log):
        stand, used = next_stand(edition, stand, entry)
        if not used:
            return Played(stand, at)
    return Played(stand, None)


def expect_log(value):
    """Raise InvalidLog if this, any value, is no log."""
    if not isinstance(value, (list, tuple)):
        raise InvalidLog(0)
    for at, entry in enumerate(value):
        if not _is_entry(entry):
            raise InvalidLog(at)


def _is_entry(value):
    """Tell whether this, any value, is a tuple of a mark, or of a name and an answer."""
    return isinstance(value, tuple) and 1 <= len(value) <= 2 and all([is_name(name) for name in value])


def _read_entry(part, at):
    """Return the entry with this text, which is the part of a log's text with this index."""
    entry = tuple(part.split(" "))
    if not _is_entry(entry):
        raise InvalidText(at)
    return entry
