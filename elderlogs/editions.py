"""Editions of a long work."""

from elderlogs.errors import InvalidEdition, InvalidText, NoPlace
from elderlogs.names import are_unlike_names, names_behind
from elderlogs.rows import Ask, Gate, Note, Row


class Edition:
    """Rows, of which the first one is where a work begins, and the marks that are let by."""

    def __init__(self, rows, drops=()):
        word = _wrong(rows, drops)
        if word is not None:
            raise InvalidEdition(word)
        self.rows = tuple(rows)
        self.drops = tuple(sorted(drops))
        self.first = self.rows[0].place
        self.names = tuple(sorted({row.name for row in rows if isinstance(row, Ask)}))
        self.marks = tuple(sorted({row.mark for row in rows if isinstance(row, Gate)}))
        self.words = tuple(sorted({row.word for row in rows if isinstance(row, Note)}))
        self._table = {row.place: row for row in rows}
        head = " ".join(["drops", *self.drops])
        self._text = "\n".join([head, *[str(row) for row in rows]])

    @classmethod
    def read(cls, text):
        """Return the edition with this text."""
        drops, rows = read_parts(text.split("\n"), 0)
        return cls(rows, drops)

    def row(self, place):
        """Return the row at a place."""
        # What is no string may be a list, which can't be looked up in a dict.
        if not isinstance(place, str) or place not in self._table:
            raise NoPlace(place)
        return self._table[place]

    def putting(self, row):
        """Return the edition with this row in the place of the one that has its place."""
        if row.place not in self._table:
            raise NoPlace(row.place)
        return Edition([row if old.place == row.place else old for old in self.rows], self.drops)

    def without_mark(self, mark):
        """Return the edition in which all works go the newer way at the gates of this mark, and it is dropped."""
        heirs = self._heirs(mark)
        rows = [row.rerouted(heirs) for row in self.rows if row.place not in heirs]
        first = heirs.get(self.first, self.first)
        front = [row for row in rows if row.place == first]
        others = [row for row in rows if row.place != first]
        drops = self.drops if mark in self.drops else (*self.drops, mark)
        return Edition([*front, *others], drops)

    def _heirs(self, mark):
        """Return for the place of each gate of this mark the first place on its newer way that is none of these."""
        newer = {row.place: row.newer for row in self.rows if isinstance(row, Gate) and row.mark == mark}
        heirs = {}
        for place in newer:
            then = newer[place]
            while then in newer:
                then = newer[then]
            heirs[place] = then
        return heirs

    def __len__(self):
        return len(self.rows)

    def __eq__(self, other):
        return isinstance(other, Edition) and self._text == other._text

    def __str__(self):
        return str(self._text)


def read_parts(lines, at):
    """Return the drops and the rows that an edition's lines tell, of which the first one has this number."""
    drops = names_behind("drops", lines[0]) if len(lines) > 0 else None
    if drops is None:
        raise InvalidText(at)
    if len(lines) == 1:
        raise InvalidText(at + 1)
    return drops, [_read_row(line, number) for number, line in enumerate(lines[1:], start=at + 1)]


def _wrong(rows, drops):
    """Return the word for the first thing that is wrong with these, any values, or None."""
    if not _are_rows(rows):
        return "rows"
    if not are_unlike_names(drops):
        return "drops"
    places = [row.place for row in rows]
    if len(set(places)) < len(places):
        return "place"
    if not all([then in places for row in rows for then in row.leads()]):
        return "then"
    if any([row.mark in drops for row in rows if isinstance(row, Gate)]):
        return "mark"
    if _has_ring(rows):
        return "ring"
    return None


def _are_rows(value):
    """Tell whether this, any value, is a sequence of at least one row."""
    if not isinstance(value, (list, tuple)) or len(value) == 0:
        return False
    return all([isinstance(row, Row) for row in value])


def _has_ring(rows):
    """Tell whether notes and gates, by whichever ways, lead from a place back to it."""
    left = [row for row in rows if isinstance(row, Note) or isinstance(row, Gate)]
    while True:
        places = [row.place for row in left]
        # A row that leads to none of those that are left is on no ring.
        kept = [row for row in left if any([then in places for then in row.leads()])]
        if len(kept) == len(left):
            return len(left) > 0
        left = kept


def _read_row(line, at):
    """Return the row whose text is this line, which has this number."""
    try:
        return Row.read(line)
    except InvalidText:
        raise InvalidText(at) from None
