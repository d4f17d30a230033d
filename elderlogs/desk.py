"""Desks: a chain and a work of it, by commands that are texts."""

from elderlogs.chains import Chain
from elderlogs.deciding import faults, story
from elderlogs.errors import InvalidCommand
from elderlogs.judging import FAULTS
from elderlogs.live import Work
from elderlogs.logs import log_text
from elderlogs.names import is_name

_DIGITS = "0123456789"


class Desk:
    """A chain and a work, or None for each; commands make them, do events, and tell of them."""

    def __init__(self):
        self.chain = None
        self.work = None

    def say(self, command):
        """Do a command, any value, and return its result, a text."""
        words = _words_of(command)
        self._expect_what_is_wanted(words[0])
        if words[0] == "chain":
            return self._keep(" ".join(words[1:]))
        if words[0] == "begin":
            self.work = Work(self.chain, int(words[1]))
            return "begun"
        if words[0] in ("answer", "mark", "newer"):
            return _joined(" ", self.work.do(command), "calm")
        if words[0] == "undo":
            return "undone" if self.work.undo() else "nothing"
        return self._told(words)

    def _expect_what_is_wanted(self, word):
        """Raise InvalidCommand if a command with this first word wants a chain or a work that is not there."""
        if word != "chain" and self.chain is None:
            raise InvalidCommand()
        if word in ("answer", "mark", "newer", "where", "log", "undo") and self.work is None:
            raise InvalidCommand()

    def _keep(self, text):
        """Keep the chain with a text in one line, and no work; return the number of editions."""
        self.chain = Chain.read(text.replace(" ; ", "\n"))
        self.work = None
        return str(len(self.chain))

    def _told(self, words):
        """Return the result of a command that only tells something."""
        if words[0] == "faults":
            return _joined(" ", faults(self.chain), "none")
        if words[0] == "story":
            return _joined(", ", story(self.chain, words[1]), "never")
        played = self.work.played
        if words[0] == "log":
            return log_text(played.log) if len(played.log) > 0 else "empty"
        return played.place if played.stuck is None else f"stuck {played.stuck}"


def _words_of(command):
    """Return the words of a command, any value."""
    if not isinstance(command, str) or "\n" in command:
        raise InvalidCommand()
    words = command.split(" ")
    if "" in words or not _has_form(words[0], words[1:]):
        raise InvalidCommand()
    return words


def _has_form(word, others):
    """Tell whether a command with this first word and these other ones has the form of one."""
    if word == "chain":
        return len(others) > 0
    if word in ("mark", "where", "log", "faults", "undo"):
        return len(others) == 0
    if len(others) != 1:
        return False
    if word in ("begin", "newer"):
        return _is_number(others[0])
    if word == "answer":
        return is_name(others[0])
    return word == "story" and others[0] in FAULTS


def _is_number(word):
    """Tell whether a word has one to four decimal digits without leading zeros."""
    if not all([digit in _DIGITS for digit in word]) or len(word) > 4:
        return False
    return word == "0" or word[0] != "0"


def _joined(sign, words, other):
    """Return the words, joined by a sign, or another text if there are none."""
    return other if words is None or len(words) == 0 else sign.join(words)
