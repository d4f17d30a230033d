"""Chains of editions, the elder ones first."""

from elderlogs.editions import Edition, read_parts
from elderlogs.errors import InvalidChain, InvalidText, NoEdition
from elderlogs.names import are_unlike_names, names_behind


class Chain:
    """Editions, the elder ones first, and the names of asks that are due just once in each work."""

    def __init__(self, editions, due=()):
        if not _are_editions(editions):
            raise InvalidChain("editions")
        if not are_unlike_names(due):
            raise InvalidChain("due")
        self.editions = tuple(editions)
        self.due = tuple(sorted(due))
        self.marks = tuple(sorted({mark for edition in editions for mark in (*edition.marks, *edition.drops)}))
        head = " ".join(["due", *self.due])
        self._text = "\n".join([head, *[part for edition in editions for part in ("edition", str(edition))]])

    @classmethod
    def read(cls, text):
        """Return the chain with this text."""
        lines = text.split("\n")
        due = names_behind("due", lines[0])
        if due is None:
            raise InvalidText(0)
        # All lines are read ahead of the first edition, since wrong ones come ahead of the errors of editions.
        parts = _read_editions(lines)
        return cls([Edition(rows, drops) for drops, rows in parts], due)

    def without(self, at):
        """Return the chain without the edition with this number."""
        self._expect_number(at)
        return Chain([*self.editions[:at], *self.editions[at + 1:]], self.due)

    def newest(self, edition):
        """Return the chain with this edition in the place of the last one."""
        return Chain([*self.editions[:-1], edition], self.due)

    def _expect_number(self, at):
        """Raise NoEdition if this is not the number of an edition."""
        # Numbers from -1 down are indexes of a tuple, too.
        if not 0 <= at < len(self.editions):
            raise NoEdition(at)

    def __len__(self):
        return len(self.editions)

    def __getitem__(self, at):
        self._expect_number(at)
        return self.editions[at]

    def __iter__(self):
        # Python would go over what has an index otherwise.
        raise TypeError("a chain is not iterable")

    def __add__(self, other):
        if not isinstance(other, Edition):
            return NotImplemented
        return Chain([*self.editions, other], self.due)

    def __eq__(self, other):
        return isinstance(other, Chain) and self._text == other._text

    def __str__(self):
        return str(self._text)


def _are_editions(value):
    """Tell whether this, any value, is a sequence of at least one edition."""
    if not isinstance(value, (list, tuple)) or len(value) == 0:
        return False
    return all([isinstance(edition, Edition) for edition in value])


def _read_editions(lines):
    """Return for each edition of a chain's lines, behind the first one, its drops and its rows."""
    if len(lines) == 1 or lines[1] != "edition":
        raise InvalidText(1)
    # No other line can be just this word: each one behind a row begins an edition, and behind a head it is wrong.
    heads = [at for at, line in enumerate(lines) if line == "edition"]
    ends = [*heads[1:], len(lines)]
    return [read_parts(lines[head + 1:end], head + 1) for head, end in zip(heads, ends)]
