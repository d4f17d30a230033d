"""The rows of editions: what an edition does at each of its places."""

from elderlogs.errors import InvalidRow, InvalidText
from elderlogs.names import is_name


class Row:
    """What stands at one place of an edition; its kinds are the classes below."""

    def __init__(self, words):
        self._text = " ".join(words)

    @classmethod
    def read(cls, text):
        """Return the row with this text."""
        words = text.split(" ")
        try:
            return _row_of(words)
        except InvalidRow:
            raise InvalidText(0) from None

    def leads(self):
        """Return the places to which it leads, by whichever way."""
        return ()

    def rerouted(self, heirs):
        """Return the row that leads to the heir of each place that has one there."""
        return self

    def __eq__(self, other):
        return isinstance(other, Row) and self._text == other._text

    def __str__(self):
        return str(self._text)


class Ask(Row):
    """An edition asks here, and goes on behind the answers that it takes."""

    def __init__(self, place, name, ways):
        _expect_names([("place", place), ("name", name)])
        if not _are_ways(ways):
            raise InvalidRow("ways")
        self.place = place
        self.name = name
        self.ways = tuple(ways)
        Row.__init__(self, [place, "ask", name, *[word for way in ways for word in way]])

    def leads(self):
        """Return the places behind its answers."""
        return tuple([then for answer, then in self.ways])

    def rerouted(self, heirs):
        """Return the ask with the heirs of the places behind its answers."""
        return Ask(self.place, self.name, [(answer, heirs.get(then, then)) for answer, then in self.ways])


class Note(Row):
    """An edition notes a word here, and goes on."""

    def __init__(self, place, word, then):
        _expect_names([("place", place), ("word", word), ("then", then)])
        self.place = place
        self.word = word
        self.then = then
        Row.__init__(self, [place, "note", word, then])

    def leads(self):
        """Return the place to which it goes on."""
        return (self.then,)

    def rerouted(self, heirs):
        """Return the note with the heir of the place to which it goes on."""
        return Note(self.place, self.word, heirs.get(self.then, self.then))


class Gate(Row):
    """Works that have the mark go the newer way here, others the elder one."""

    def __init__(self, place, mark, newer, elder):
        _expect_names([("place", place), ("mark", mark), ("newer", newer), ("elder", elder)])
        self.place = place
        self.mark = mark
        self.newer = newer
        self.elder = elder
        Row.__init__(self, [place, "mark", mark, newer, elder])

    def leads(self):
        """Return the places of both ways."""
        return (self.newer, self.elder)

    def rerouted(self, heirs):
        """Return the gate with the heirs of the places of both ways."""
        return Gate(self.place, self.mark, heirs.get(self.newer, self.newer), heirs.get(self.elder, self.elder))


class End(Row):
    """The work is over here."""

    def __init__(self, place):
        _expect_names([("place", place)])
        self.place = place
        Row.__init__(self, [place, "end"])


def _expect_names(pairs):
    """Raise the error of the first of these pairs, a parameter's name and a value, whose value is no name."""
    for word, value in pairs:
        if not is_name(value):
            raise InvalidRow(word)


def _are_ways(value):
    """Tell whether this, any value, is a sequence of at least one pair, with unlike answers."""
    if not isinstance(value, (list, tuple)) or len(value) == 0:
        return False
    if not all([_is_way(way) for way in value]):
        return False
    return len({way[0] for way in value}) == len(value)


def _is_way(value):
    """Tell whether this, any value, is a tuple of an answer and a place."""
    return isinstance(value, tuple) and len(value) == 2 and is_name(value[0]) and is_name(value[1])


def _row_of(words):
    """Return the row with these words: the second one tells its kind, since a place may have any name."""
    kind = words[1] if len(words) > 1 else ""
    if kind == "ask" and len(words) % 2 == 1:
        return Ask(words[0], words[2], list(zip(words[3::2], words[4::2])))
    if kind == "note" and len(words) == 4:
        return Note(words[0], words[2], words[3])
    if kind == "mark" and len(words) == 5:
        return Gate(words[0], words[2], words[3], words[4])
    if kind == "end" and len(words) == 2:
        return End(words[0])
    raise InvalidText(0)
