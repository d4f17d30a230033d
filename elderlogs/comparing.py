"""Comparing: which editions are alike to every log, and what a log tells of the editions that wrote it."""

from elderlogs.logs import expect_log
from elderlogs.rows import Ask, End, Gate
from elderlogs.stands import entries_at, first_stand, stand_behind, taken_entries


def alike(p, q):
    """Tell whether two editions are alike behind every log."""
    return parting(p, q) is None


def parting(p, q):
    """Return some log, with as few entries as there can be, behind which two editions are not alike, or None."""
    seen = {}
    level = [((), first_stand(p), first_stand(q))]
    while len(level) > 0:
        found = []
        for log, one, other in level:
            if _shown(p, one) != _shown(q, other):
                return log
            # Neither is stuck: both show the same, and one of them took each entry so far. Other entries stop both.
            for entry in sorted(set([*taken_entries(p, one), *taken_entries(q, other)])):
                pair = (stand_behind(p, one, entry), stand_behind(q, other, entry))
                if pair not in seen:
                    seen[pair] = True
                    found.append(((*log, entry), *pair))
        level = found
    return None


def wrote(chain, log):
    """Return the numbers of the editions that are live, and not stuck, in some work with just this log."""
    return tuple([live for live, firsts in enumerate(_beginners(chain, log)) if len(firsts) > 0])


def began(chain, log):
    """Return the numbers of the editions by which works with just this log can have been begun."""
    return tuple(sorted({first for firsts in _beginners(chain, log) for first in firsts}))


def _shown(edition, stand):
    """Return what an edition shows at a stand, but for the place and the ways: None if it is stuck."""
    if stand is None:
        return None
    place, _, word = stand
    row = edition.row(place)
    if isinstance(row, Ask):
        return "ask", row.name, sorted([answer for answer, _ in row.ways]), word
    if isinstance(row, Gate):
        return "mark", row.mark, [], word
    return "end", None, [], word


def _beginners(chain, log):
    """Return for each edition those by which works with just this log, where it is live and not stuck, were begun."""
    expect_log(log)
    stands = [first_stand(edition) for edition in chain.editions]
    begun = _taken_over(chain, stands, [[at] for at in range(len(chain))])
    for entry in log:
        rows = _rows_at(chain, stands)
        begun = [firsts if entry in _entries_of(row) else [] for firsts, row in zip(begun, rows)]
        stands = [stand_behind(edition, stand, entry) for edition, stand in zip(chain.editions, stands)]
        begun = _taken_over(chain, stands, begun)
    return [[] if stand is None else firsts for firsts, stand in zip(begun, stands)]


def _taken_over(chain, stands, begun):
    """Return for each edition those by which works were begun where it is live, when later ones may take over."""
    found = list(begun)
    for live, row in enumerate(_rows_at(chain, stands)):
        # What is over is taken over by none; what a later one took over may be taken over once more.
        if not isinstance(row, End):
            for later in range(live + 1, len(chain)):
                found[later] = sorted(set([*found[later], *found[live]]))
    return found


def _rows_at(chain, stands):
    """Return the rows at which the editions stand or wait, None for those that are stuck."""
    return [None if stand is None else edition.row(stand[0]) for edition, stand in zip(chain.editions, stands)]


def _entries_of(row):
    """Return the entries that a live edition can put behind the log at a row (None: it is stuck)."""
    return [entry for _, entry in entries_at(row)]
