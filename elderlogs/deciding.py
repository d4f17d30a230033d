"""Deciding for all works of a chain, of any length: which faults happen, and where editions come."""

from elderlogs.chains import Chain
from elderlogs.configurations import steps
from elderlogs.judging import FAULTS, expect_fault
from elderlogs.rows import Gate
from elderlogs.stands import passed, with_way


def happens(chain, fault):
    """Tell whether some work meets a fault."""
    return story(chain, fault) is not None


def faults(chain):
    """Return the ascending tuple of the faults that happen."""
    found = {}
    for _, _, _, met in steps(chain):
        for fault in met:
            found[fault] = True
        if len(found) == len(FAULTS):
            break
    return tuple(sorted(found))


def story(chain, fault):
    """Return some events, as few as there can be, behind which a fault is met, or None."""
    expect_fault(fault)
    return _first_story(chain, [fault])


def comes(chain, at, place):
    """Tell whether in some work the edition with this number, being live, goes through this place or stands there."""
    edition = chain[at]
    # There may be no such place: then this raises its error.
    edition.row(place)
    stands = {}
    # No later edition is live ahead of this one.
    elder = Chain(chain.editions[:at + 1], chain.due)
    for _, _, now, _ in steps(elder):
        if now[0] == at and now[1][0] is not None:
            stands[now[1][0]] = True
    begun = passed(edition, edition.first, ())
    return place in begun or any([place in _places_on(edition, stand) for stand in stands])


def is_free(chain, wanted):
    """Tell whether none of these faults happens."""
    return len(wanted) == 0 or _first_story(chain, wanted) is None


def _first_story(chain, wanted):
    """Return some events, as few as there can be, behind which one of these faults is met, or None."""
    came = {}
    for ahead, event, now, met in steps(chain):
        if any([fault in wanted for fault in met]):
            return (*_events_to(came, ahead), event)
        if now not in came:
            came[now] = (ahead, event)
    return None


def _events_to(came, configuration):
    """Return the events that led to a configuration, by the one ahead and the event that are kept for each."""
    events = []
    while configuration is not None:
        configuration, event = came[configuration]
        events.append(event)
    return events[::-1]


def _places_on(edition, stand):
    """Return the place of a stand, and those to which its edition, being live, goes on from there by one event."""
    place, ways, _ = stand
    row = edition.row(place)
    if isinstance(row, Gate):
        return [place, *passed(edition, row.newer, with_way(ways, row.mark, True))]
    return [place, *[on for then in row.leads() for on in passed(edition, then, ways)]]
