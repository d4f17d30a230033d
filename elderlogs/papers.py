"""Papers: configurations that show, to anybody who goes on from each of them by one event, that a fault never happens.
"""

from elderlogs.configurations import Roads, steps
from elderlogs.errors import NoPlace
from elderlogs.judging import expect_fault
from elderlogs.rows import Gate, Note
from elderlogs.stands import way_of


def paper(chain, fault):
    """Return some right paper for a fault, or None if it happens."""
    expect_fault(fault)
    found = {}
    for _, _, now, met in steps(chain):
        if fault in met:
            return None
        found[now] = True
    return tuple(found)


def paper_holds(chain, fault, value):
    """Tell whether this, any value, is a right paper for a fault."""
    expect_fault(fault)
    if not isinstance(value, tuple) or not all([_is_configuration(chain, part) for part in value]):
        return False
    roads = Roads(chain)
    told = {part: True for part in value}
    if not all([now in told for _, now in roads.firsts()]):
        return False
    return all([_goes_on(roads, fault, told, now) for now in told])


def _goes_on(roads, fault, told, now):
    """Tell whether a fault is met neither at a configuration nor by an event there, and the ones behind are told."""
    if fault in roads.met(now, False):
        return False
    for _, then in roads.further(now):
        if then not in told or fault in roads.met(then, roads.is_turned(now, then)):
            return False
    return True


def _is_configuration(chain, value):
    """Tell whether this, any value, has the form of a configuration."""
    if not isinstance(value, tuple) or len(value) != 3:
        return False
    live, stands, asked = value
    if not isinstance(live, int) or isinstance(live, bool) or not 0 <= live < len(chain):
        return False
    if not isinstance(stands, tuple) or len(stands) != len(chain) - live:
        return False
    if not all([_is_stand(edition, stand) for edition, stand in zip(chain.editions[live:], stands)]):
        return False
    return isinstance(asked, tuple) and _are_some_of(chain.due, asked)


def _is_stand(edition, value):
    """Tell whether this, any value, has the form of a stand of an edition, or is None."""
    if value is None:
        return True
    if not isinstance(value, tuple) or len(value) != 3:
        return False
    place, ways, word = value
    if not _are_ways(edition, ways) or not _can_stand(edition, place, ways):
        return False
    return word in (None, *edition.words)


def _are_ways(edition, value):
    """Tell whether this, any value, tells ways of marks of an edition's gates, ascending, each mark once."""
    if not isinstance(value, tuple):
        return False
    if not all([isinstance(way, tuple) and len(way) == 2 and isinstance(way[1], bool) for way in value]):
        return False
    return _are_some_of(edition.marks, [way[0] for way in value])


def _are_some_of(names, values):
    """Tell whether these, any values, are some of these names, ascending, each once."""
    if not all([value in names for value in values]):
        return False
    return list(values) == sorted(set(values))


def _can_stand(edition, place, ways):
    """Tell whether this, any value, is a place at which an edition can stand when these ways are decided."""
    try:
        row = edition.row(place)
    except NoPlace:
        return False
    if isinstance(row, Gate):
        return way_of(ways, row.mark) is None
    return not isinstance(row, Note)
