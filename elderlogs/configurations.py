"""Configurations: the live edition, where it and all later ones stand along one log, and the due names asked there."""

from elderlogs.judging import is_otherwise, met_faults
from elderlogs.rows import End
from elderlogs.stands import entries_at, first_stand, stand_behind


class Roads:
    """The ways from configurations of a chain to further ones."""

    def __init__(self, chain):
        self._due = chain.due
        self._editions = chain.editions
        self._rows = [{row.place: row for row in edition.rows} for edition in chain.editions]
        # Many configurations share a row and stands: what an entry leads to is found once, and then looked up.
        self._entries = [{row.place: entries_at(row) for row in edition.rows} for edition in chain.editions]
        self._known = [{} for _ in chain.editions]

    def firsts(self):
        """Return the events that begin works, each with the configuration behind it."""
        stands = tuple([first_stand(edition) for edition in self._editions])
        return [(f"begin {live}", (live, stands[live:], ())) for live in range(len(stands))]

    def further(self, configuration):
        """Return the events that can happen at a configuration, each with the one behind it."""
        live, stands, asked = configuration
        if isinstance(self._row(configuration), End):
            return []
        found = []
        if stands[0] is not None:
            for event, entry in self._entries[live][stands[0][0]]:
                found.append((event, (live, self._along(live, stands, entry), self._asked(asked, entry))))
        for later in range(live + 1, len(self._editions)):
            found.append((f"newer {later}", (later, stands[later - live:], asked)))
        return found

    def is_turned(self, ahead, configuration):
        """Tell whether a later edition took over between these configurations, and is told otherwise."""
        if ahead[0] == configuration[0] or ahead[1][0] is None or configuration[1][0] is None:
            return False
        return is_otherwise(self._row(ahead), ahead[1][0][2], self._row(configuration), configuration[1][0][2])

    def met(self, configuration, turned):
        """Return the faults that are met at a configuration; `turned` is whether it is told otherwise by the event."""
        return met_faults(self._due, self._row(configuration), configuration[2], turned)

    def _row(self, configuration):
        """Return the row at which the live edition stands or waits, or None if it is stuck."""
        live, stands, _ = configuration
        return None if stands[0] is None else self._rows[live][stands[0][0]]

    def _along(self, live, stands, entry):
        """Return the stands behind one more entry."""
        return tuple([self._next(live + at, stand, entry) for at, stand in enumerate(stands)])

    def _next(self, number, stand, entry):
        """Return the stand of the edition with this number behind one more entry."""
        table = self._known[number]
        if (stand, entry) not in table:
            table[stand, entry] = stand_behind(self._editions[number], stand, entry)
        return table[stand, entry]

    def _asked(self, asked, entry):
        """Return the due names that the log has answers to behind one more entry."""
        if len(entry) == 1 or entry[0] not in self._due or entry[0] in asked:
            return asked
        return tuple(sorted([*asked, entry[0]]))


def steps(chain):
    """Go through the steps of all works, but for those that lead where an earlier step led and tell nothing otherwise.

    Those with fewer events ahead of them come first. Yield for each one the configuration ahead (None: the work is
    begun), the event, the configuration behind it, and the faults that are met by it.
    """
    roads = Roads(chain)
    seen = {}
    level = []
    for event, now in roads.firsts():
        yield None, event, now, roads.met(now, False)
        seen[now] = True
        level.append(now)
    while len(level) > 0:
        found = []
        for ahead in level:
            for event, now in roads.further(ahead):
                turned = roads.is_turned(ahead, now)
                if turned or now not in seen:
                    yield ahead, event, now, roads.met(now, turned)
                if now not in seen:
                    seen[now] = True
                    found.append(now)
        level = found
