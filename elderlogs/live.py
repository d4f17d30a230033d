"""Live works: works that go on, and whose deeds can be taken back."""

from elderlogs.errors import InvalidEvent, NoEdition, Refused
from elderlogs.rows import Ask
from elderlogs.works import faults_between, next_story, row_of


class Trial:
    """A block, behind which a work is as it was when the block was entered."""

    def __init__(self, work):
        self._work = work
        self._state = None
        self._past = None

    def __enter__(self):
        self._state = self._work._state
        self._past = self._work._past
        return self._work

    def __exit__(self, kind, value, trace):
        work = self._work
        work._state = self._state
        work._past = self._past


class Work:
    """A work that goes on, begun by the edition of a chain with a number."""

    def __init__(self, chain, at=0):
        if not isinstance(at, int) or isinstance(at, bool) or not 0 <= at < len(chain):
            raise NoEdition(at)
        event = f"begin {at}"
        self._chain = chain
        # A state is never changed but exchanged, so that earlier ones can be kept as they are.
        self._state = ((event,), next_story(chain, None, event))
        self._past = ()

    @property
    def events(self):
        """The events so far."""
        return self._state[0]

    @property
    def played(self):
        """The story of the events so far."""
        return self._state[1]

    @property
    def asks(self):
        """The name that is asked now, or None."""
        row = row_of(self._chain, self._state[1])
        return row.name if isinstance(row, Ask) else None

    def do(self, event):
        """Do an event, and return the faults that are met by it."""
        state, met = self._one_more(self._state, event)
        self._go_to(state)
        return met

    def several(self, events):
        """Do several events or none of them, and return the faults that are met by each."""
        state = self._state
        found = []
        for at, event in enumerate(events):
            try:
                state, met = self._one_more(state, event)
            except InvalidEvent as error:
                raise Refused(at) from error
            found.append(met)
        if len(found) > 0:
            self._go_to(state)
        return tuple(found)

    def undo(self):
        """Take back the last deed, and return whether there was one."""
        if len(self._past) == 0:
            return False
        self._state = self._past[-1]
        self._past = self._past[:-1]
        return True

    def trial(self):
        """Return a block, behind which the work is as it was when the block was entered."""
        return Trial(self)

    def within(self, deed):
        """Call a deed with the work, and return what it returns; then the work is as it was ahead of that."""
        with Trial(self) as work:
            return deed(work)

    def _one_more(self, state, event):
        """Return the state behind one more event, any value, and the faults that are met by it."""
        events, story = state
        now = next_story(self._chain, story, event)
        if now is None:
            raise InvalidEvent(len(events))
        return ((*events, event), now), faults_between(self._chain, story, now)

    def _go_to(self, state):
        """Be at another state, by a deed that can be taken back."""
        self._past = (*self._past, self._state)
        self._state = state

    def __len__(self):
        return len(self._past)

    def __iadd__(self, other):
        self.do(other)
        return self
