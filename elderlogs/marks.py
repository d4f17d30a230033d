"""Marks: which ones the newest edition needs, how they stand behind the logs, and which may go."""

from elderlogs.configurations import steps
from elderlogs.deciding import faults, is_free
from elderlogs.judging import FAULTS, expect_faults
from elderlogs.stands import way_of


def least_marks(chain, wanted):
    """Return all least sets of the newest edition's marks with which none of these faults happens."""
    expect_faults(wanted)
    found = []
    for kept in _parts(chain.editions[-1].marks):
        # Smaller sets come first, so that of a set that is not least some part was found.
        if not any([_has_all(kept, least) for least in found]) and is_free(_with_marks(chain, kept), wanted):
            found = [*found, kept]
    return tuple(found)


def lying(chain, mark):
    """Return how a mark stands in the newest edition behind logs of works: some of "elder", "newer", "open"."""
    words = {None: "open", True: "newer", False: "elder"}
    found = {}
    for _, _, now, _ in steps(chain):
        stand = now[1][-1]
        if stand is not None:
            found[words[way_of(stand[1], mark)]] = True
    return tuple(sorted(found))


def can_go(chain, mark):
    """Tell whether with the newest edition without a mark, as a further one, no more faults happen than do already."""
    known = faults(chain)
    others = [fault for fault in FAULTS if fault not in known]
    return is_free(chain + chain.editions[-1].without_mark(mark), others)


def _parts(names):
    """Return all tuples of some of these names, or none or all of them: shorter ones first, then ascending."""
    found = [()]
    for name in names:
        found = [*found, *[(*part, name) for part in found]]
    return sorted(found, key=lambda part: (len(part), part))


def _has_all(names, part):
    """Tell whether all names of a part are among these."""
    return all([name in names for name in part])


def _with_marks(chain, kept):
    """Return the chain whose newest edition has these of its marks, and goes without all others."""
    newest = chain.editions[-1]
    edition = newest
    for mark in newest.marks:
        if mark not in kept:
            edition = edition.without_mark(mark)
    return chain.newest(edition)
