"""Stands: where editions are behind a log, as tuples of a place, the ways that were decided, and the last word."""

from elderlogs.rows import Ask, Gate, Note


def first_stand(edition):
    """Return where an edition stands, or waits, ahead of all entries."""
    return _settled(edition, edition.first, (), None)


def next_stand(edition, stand, entry):
    """Return where an edition goes from a stand for the next entry, and whether it uses it up: else it is stuck."""
    if len(entry) == 1 and entry[0] in edition.drops:
        return stand, True
    place, ways, word = stand
    row = edition.row(place)
    # The gate where it waits is not decided; behind its elder way another one may wait for the same entry.
    while isinstance(row, Gate):
        newer = entry == (row.mark,)
        ways = with_way(ways, row.mark, newer)
        place, ways, word = _settled(edition, place, ways, word)
        if newer:
            return (place, ways, word), True
        row = edition.row(place)
    if isinstance(row, Ask) and len(entry) == 2 and entry[0] == row.name:
        for answer, then in row.ways:
            if answer == entry[1]:
                return _settled(edition, then, ways, word), True
    return (place, ways, word), False


def stand_behind(edition, stand, entry):
    """Return the stand of an edition behind one more entry, None if it is stuck: at this one, or already."""
    if stand is None:
        return None
    then, used = next_stand(edition, stand, entry)
    return then if used else None


def taken_entries(edition, stand):
    """Return the entries that an edition uses up when they are the next ones at a stand."""
    found = [(mark,) for mark in edition.drops]
    place, ways, _ = stand
    row = edition.row(place)
    # Any entry but its mark decides the elder way of the gate where it waits; there another one may take it.
    while isinstance(row, Gate):
        found.append((row.mark,))
        ways = with_way(ways, row.mark, False)
        row = edition.row(passed(edition, row.elder, ways)[-1])
    return [*found, *[entry for _, entry in entries_at(row)]]


def entries_at(row):
    """Return the events by which an edition at a row (None: it is stuck) puts an entry behind the log, with these."""
    if isinstance(row, Gate):
        return [("mark", (row.mark,))]
    if isinstance(row, Ask):
        return [(f"answer {answer}", (row.name, answer)) for answer, _ in row.ways]
    return []


def passed(edition, place, ways):
    """Return the places to which the notes, and the gates that are decided, lead from one on: this and all others."""
    places = []
    while place is not None:
        places.append(place)
        place = _led(edition.row(place), ways)
    return places


def way_of(ways, mark):
    """Return whether the newer way was decided for a mark, or None if it was not decided."""
    for decided, newer in ways:
        if decided == mark:
            return newer
    return None


def with_way(ways, mark, newer):
    """Return the ways with one more mark, ascending."""
    return tuple(sorted([*ways, (mark, newer)]))


def _settled(edition, place, ways, word):
    """Return the stand to which the notes, and the gates that are decided, lead from a place."""
    places = passed(edition, place, ways)
    rows = [edition.row(on) for on in places]
    words = [row.word for row in rows if isinstance(row, Note)]
    return places[-1], ways, words[-1] if len(words) > 0 else word


def _led(row, ways):
    """Return the place to which a row leads at once: a note, or a gate that is decided; None if an edition stays."""
    if isinstance(row, Note):
        return row.then
    newer = way_of(ways, row.mark) if isinstance(row, Gate) else None
    if newer is None:
        return None
    return row.newer if newer else row.elder
