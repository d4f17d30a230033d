"""The document's words about all works of a chain once more, over texts.

Each configuration is found by a log that leads to it, which all editions play from its top. It shares nothing with the
program but the texts of editions.
"""

import itertools

from tests.reference import EVENT, behind, met, row_at, told, words_of

FAULTS = ["never", "otherwise", "stuck", "twice"]


def stand_of(text, log, stand=None):
    """Where the edition with a text stands behind a log, or None if it is stuck."""
    place, ways, word, stuck = told(text, log, stand)
    return None if stuck is not None else (place, ways, word)


def configuration_of(texts, due, live, log):
    """The configuration of a work."""
    asked = {entry[0] for entry in log if len(entry) == 2}
    return live, tuple([stand_of(text, log) for text in texts[live:]]), tuple(sorted(asked & set(due)))


class AllWorks:
    """For each configuration of a chain a work with as few events as can be, and for each fault that happens."""

    def __init__(self, chain):
        self.texts = [str(edition) for edition in chain.editions]
        self.due = chain.due
        answers = sorted({word for text in self.texts for row in words_of(text)[1].values() if row[1] == "ask"
                          for word in row[3::2]})
        kinds = ["mark", *[f"answer {answer}" for answer in answers]]
        kinds += [f"newer {live}" for live in range(len(self.texts))]
        self.stories, self.works, self.met, self.places = {}, {}, {}, {}
        level = [self.step(None, (), f"begin {live}") for live in range(len(self.texts))]
        while level:
            found = [self.step(story, events, event) for story, events in level if story for event in kinds]
            level = [pair for pair in found if pair is not None]

    def step(self, ahead, events, event):
        """Do one event, if it can happen; return the story and the events if they led to something new."""
        found = EVENT.fullmatch(event)
        then = behind(self.texts, ahead, (found[1] or found[3] or found[5]), found)
        if then is None:
            return None
        live, log = then
        story = (live, log, *told(self.texts[live], log))
        for fault in met(self.texts, self.due, story, ahead):
            self.met.setdefault(fault, (*events, event))
        self.keep_places(ahead, story)
        key = configuration_of(self.texts, self.due, live, log)
        if key in self.works:
            return None
        self.works[key], self.stories[key] = (*events, event), story
        return story, (*events, event)

    def keep_places(self, ahead, story):
        """Keep the places at which the live edition is by an event."""
        live, log, place, _, _, stuck = story
        kept = self.places.setdefault(live, set())
        if stuck is None:
            kept.add(place)
        if ahead is None or ahead[0] == live:
            trail = []
            told(self.texts[live], log, None, trail)
            kept.update(trail if ahead is None else [ahead[2], *trail])

    def is_right(self, fault, value):
        """Whether this, any value, is a right paper for a fault."""
        if not isinstance(value, tuple) or not all(self.is_formed(part) for part in value):
            return False
        for live in range(len(self.texts)):
            if configuration_of(self.texts, self.due, live, ()) not in value:
                return False
        for part in value:
            if fault in self.met_at(part, None):
                return False
            for then in self.behind(part):
                if then not in value or fault in self.met_at(then, part):
                    return False
        return True

    def is_formed(self, part):
        """Whether this, any value, has the form of a configuration; what it has inside is told apart by its repr."""
        if not isinstance(part, tuple) or len(part) != 3:
            return False
        live, stands, asked = part
        if live.__class__ is not int or not 0 <= live < len(self.texts):
            return False
        if not isinstance(stands, tuple) or len(stands) != len(self.texts) - live:
            return False
        dues = [repr(some) for size in range(3) for some in itertools.combinations(self.due, size)]
        return repr(asked) in dues and all(
            repr(stand) in forms(text) for text, stand in zip(self.texts[live:], stands))

    def behind(self, part):
        """The configurations behind one further event."""
        live, stands, asked = part
        row = ["", "stuck"] if stands[0] is None else row_at(self.texts[live], stands[0][0])
        if row[1] == "end":
            return []
        entries = [(row[2], answer) for answer in row[3::2]] if row[1] == "ask" else []
        entries += [(row[2],)] if row[1] == "mark" else []
        found = [(later, stands[later - live:], asked) for later in range(live + 1, len(self.texts))]
        for entry in entries:
            then = [None if stand is None else stand_of(text, [entry], stand)
                    for text, stand in zip(self.texts[live:], stands)]
            told_now = {*asked, entry[0]} if len(entry) == 2 and entry[0] in self.due else set(asked)
            found.append((live, tuple(then), tuple(sorted(told_now))))
        return found

    def met_at(self, part, ahead):
        """The faults that are met at a configuration, by the event that led to it from the one ahead, or None."""
        return met(self.texts, self.due, self.as_story(part), None if ahead is None else self.as_story(ahead))

    def as_story(self, part):
        """A story that stands there, with some log that has these answers."""
        live, stands, asked = part
        log = tuple([(name, "a") for name in asked])
        return (live, log, None, (), None, 0) if stands[0] is None else (live, log, *stands[0], None)


def forms(text):
    """What stands of the edition with a text look like, by their form."""
    rows = words_of(text)[1].values()
    marks = sorted({row[2] for row in rows if row[1] == "mark"})
    words = [None, *sorted({row[2] for row in rows if row[1] == "note"})]
    found = {"None"}
    for told_ways in itertools.product([None, True, False], repeat=len(marks)):
        ways = {mark: newer for mark, newer in zip(marks, told_ways) if newer is not None}
        places = [row[0] for row in rows if row[1] in ("ask", "end") or row[1] == "mark" and row[2] not in ways]
        found |= {repr((place, tuple(ways.items()), word)) for place in places for word in words}
    return found
