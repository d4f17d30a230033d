"""Configurations: the live edition, where it and all later ones stand along one log, and the due names asked there."""

from elderlogs.judging import is_otherwise, met_faults
from elderlogs.rows import End
from elderlogs.stands import entries_at, first_stand, stand_behind


class Roads:
    """The ways from configurations of a chain to further ones."""

    def __init__(self, chain):
        self._due = chain.due
        self._editions = chain.editions
        self._rows = [{row.place: row for row in edition.rows} for edition in chain.editions]
        # Where an edition goes from a stand by an entry is kept, since many configurations have this stand.
        self._known = [{} for _ in chain.editions]

    def firsts(self):
        """Return the events that begin works, each with the configuration behind it."""
        stands = tuple([first_stand(edition) for edition in self._editions])
        return [(f"begin {live}", (live, stands[live:], ())) for live in range(len(stands))]

    def further(self, configuration):
        """Return the events that can happen at a configuration, each with the one behind it."""
        live, stands, asked = configuration
        row = self._row(configuration)
        if isinstance(row, End):
            return []
        found = []
        for event, entry in entries_at(row):
            found.append((event, (live, self._along(live, stands, entry), self._asked(asked, entry))))
        for later in range(live + 1, len(self._editions)):
            found.append((f"newer {later}", (later, stands[later - live:], asked)))
        return found

    def met(self, ahead, configuration):
        """Return the faults that are met by the event that led to a configuration from the one ahead, or None."""
        row = self._row(configuration)
        turned = False
        if ahead is not None and ahead[0] < configuration[0]:
            turned = is_otherwise(self._row(ahead), _word(ahead), row, _word(configuration))
        return met_faults(self._due, row, configuration[2], turned)

    def _row(self, configuration):
        """Return the row at which the live edition stands or waits, or None if it is stuck."""
        live, stands, _ = configuration
        return None if stands[0] is None else self._rows[live][stands[0][0]]

    def _along(self, live, stands, entry):
        """Return the stands behind one more entry."""
        return tuple([self._next(live + at, stand, entry) for at, stand in enumerate(stands)])

    def _next(self, number, stand, entry):
        """Return the stand of the edition with this number behind one more entry."""
        table = self._known[number]
        if (stand, entry) not in table:
            table[stand, entry] = stand_behind(self._editions[number], stand, entry)
        return table[stand, entry]

    def _asked(self, asked, entry):
        """Return the due names that the log has answers to behind one more entry."""
        if len(entry) == 1 or entry[0] not in self._due or entry[0] in asked:
            return asked
        return tuple(sorted([*asked, entry[0]]))


def steps(chain):
    """Go through the steps of all works, those with fewer events ahead of them first.

    Yield for each one the configuration ahead (None: the work is begun), the event, the configuration behind it, and
    the faults that are met by it.
    """
    roads = Roads(chain)
    seen = {}
    level = []
    for event, now in roads.firsts():
        yield None, event, now, roads.met(None, now)
        seen[now] = True
        level.append(now)
    while len(level) > 0:
        found = []
        for ahead in level:
            for event, now in roads.further(ahead):
                yield ahead, event, now, roads.met(ahead, now)
                if now not in seen:
                    seen[now] = True
                    found.append(now)
        level = found


def _word(configuration):
    """Return the last word of the live edition, or None (also if it is stuck)."""
    stand = configuration[1][0]
    return None if stand is None else stand[2]
