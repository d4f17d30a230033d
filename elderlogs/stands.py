"""Stands: where editions are behind a log, as tuples of a place, the ways that were decided, and the last word."""

from elderlogs.rows import Ask, Gate, Note


def first_stand(edition):
    """Return where an edition stands, or waits, ahead of all entries."""
    return _settled(edition, edition.first, (), None)


def next_stand(edition, stand, entry):
    """Return where an edition goes from a stand for the next entry, and whether it uses it up: else it is stuck."""
    if len(entry) == 1 and entry[0] in edition.drops:
        return stand, True
    place, ways, word = stand
    row = edition.row(place)
    # The gate where it waits is not decided; behind its elder way another one may wait for the same entry.
    while isinstance(row, Gate):
        newer = entry == (row.mark,)
        ways = _with_way(ways, row.mark, newer)
        place, ways, word = _settled(edition, place, ways, word)
        if newer:
            return (place, ways, word), True
        row = edition.row(place)
    if isinstance(row, Ask) and len(entry) == 2 and entry[0] == row.name:
        for answer, then in row.ways:
            if answer == entry[1]:
                return _settled(edition, then, ways, word), True
    return (place, ways, word), False


def _settled(edition, place, ways, word):
    """Return the stand to which the notes, and the gates that are decided, lead from a place."""
    while True:
        row = edition.row(place)
        if isinstance(row, Note):
            place = row.then
            word = row.word
        elif isinstance(row, Gate) and _way(ways, row.mark) is not None:
            place = row.newer if _way(ways, row.mark) else row.elder
        else:
            return place, ways, word


def _way(ways, mark):
    """Return whether the newer way was decided for a mark, or None if it was not decided."""
    for decided, newer in ways:
        if decided == mark:
            return newer
    return None


def _with_way(ways, mark, newer):
    """Return the ways with one more mark, ascending."""
    return tuple(sorted([*ways, (mark, newer)]))
