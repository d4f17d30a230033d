"""Ways: where answers may lead in a further edition, and which editions a chain can do without."""

from elderlogs.deciding import faults, is_free
from elderlogs.errors import NoPlace
from elderlogs.judging import expect_faults
from elderlogs.rows import Ask


def safe_ways(chain, place, answer, wanted):
    """Return the places to which an answer can lead in a further edition, so that none of these faults happens."""
    expect_faults(wanted)
    newest = chain.editions[-1]
    row = newest.row(place)
    if not isinstance(row, Ask):
        raise NoPlace(place)
    if answer not in [taken for taken, _ in row.ways]:
        raise NoPlace(answer)
    # The works of a chain are works of each longer one, too.
    if not is_free(chain, wanted):
        return ()
    places = sorted([other.place for other in newest.rows])
    return tuple([then for then in places if is_free(chain + newest.putting(_led(row, answer, then)), wanted)])


def needless(chain, wanted):
    """Return the numbers of the editions without which, each alone, the same ones of these faults happen."""
    expect_faults(wanted)
    if len(chain) == 1:
        return ()
    known = _happening(chain, wanted)
    return tuple([at for at in range(len(chain)) if _happening(chain.without(at), wanted) == known])


def _led(row, answer, then):
    """Return the ask with this place behind this answer."""
    return Ask(row.place, row.name, [(taken, then if taken == answer else led) for taken, led in row.ways])


def _happening(chain, wanted):
    """Return those of these faults that happen."""
    return [fault for fault in faults(chain) if fault in wanted]
