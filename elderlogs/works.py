"""Works: what comes of their events, and the faults that they meet."""

from elderlogs.errors import InvalidEvent
from elderlogs.judging import is_otherwise, met_faults
from elderlogs.logs import replay
from elderlogs.rows import End
from elderlogs.stands import entries_at


class Story:
    """What has come of a work: its live edition, its log, where this edition is behind it, and the faults so far."""

    def __init__(self, live, log, played, faults):
        self.live = live
        self.log = log
        self.place = played.place
        self.ways = played.ways
        self.word = played.word
        self.stuck = played.stuck
        self.faults = faults


def play(chain, events):
    """Return the story of the work with these events."""
    if not isinstance(events, (list, tuple)) or len(events) == 0:
        raise InvalidEvent(0)
    story = None
    for at, event in enumerate(events):
        story = next_story(chain, story, event)
        if story is None:
            raise InvalidEvent(at)
    return story


def next_story(chain, story, event):
    """Return the story behind one more event, any value, or None if it is none or can't happen.

    Ahead of the first event the story is None.
    """
    told = _begun(chain, event) if story is None else _gone_on(chain, story, event)
    if told is None:
        return None
    live, log = told
    played = replay(chain.editions[live], log)
    now = Story(live, log, played, ())
    before = () if story is None else story.faults
    return Story(live, log, played, tuple(sorted(set([*before, *faults_between(chain, story, now)]))))


def faults_between(chain, story, now):
    """Return the ascending tuple of the faults that are met by the event that leads from one story to the next one."""
    row = row_of(chain, now)
    asked = [entry[0] for entry in now.log if len(entry) == 2]
    turned = False
    if story is not None and story.live < now.live:
        turned = is_otherwise(row_of(chain, story), story.word, row, now.word)
    return met_faults(chain.due, row, asked, turned)


def row_of(chain, story):
    """Return the row at which the live edition stands or waits, or None if it is stuck."""
    if story.stuck is not None:
        return None
    return chain.editions[story.live].row(story.place)


def _begun(chain, event):
    """Return the live edition and the log behind a first event, or None if it can't be this one."""
    live = _number_behind("begin", event, 0, len(chain))
    return None if live is None else (live, ())


def _gone_on(chain, story, event):
    """Return the live edition and the log behind a further event, or None if it can't happen."""
    row = row_of(chain, story)
    if isinstance(row, End):
        return None
    later = _number_behind("newer", event, story.live + 1, len(chain))
    if later is not None:
        return later, story.log
    entry = _entry_of(row, event)
    return None if entry is None else (story.live, (*story.log, entry))


def _number_behind(word, event, first, end):
    """Return the number, from the first one on and below the end, behind the word in this event, any value, or None."""
    # Texts are compared, since digits that are read as a number may have zeros ahead of them or be of any alphabet.
    for at in range(first, end):
        if event == f"{word} {at}":
            return at
    return None


def _entry_of(row, event):
    """Return the entry that this event, any value, puts behind the log at a row (None: it is stuck), or None."""
    for name, entry in entries_at(row):
        if event == name:
            return entry
    return None
