"""[22]: live works, their deeds, what is taken back, and blocks; with [1] and [2]."""

import unittest

from elderlogs.chains import Chain
from elderlogs.editions import Edition
from elderlogs.errors import InvalidEvent, LogError, NoEdition, Refused
from elderlogs.live import Work
from elderlogs.rows import Ask
from elderlogs.works import Story, play
from tests.reference import chances, met, some_chain, story_of
from tests.values import E0, E1, E2, any_values, chain_of

EDITIONS = [Edition.read(E0), Edition.read(E1), Edition.read(E2)]


def told(story):
    """What a story tells, as a tuple."""
    return story.live, story.log, story.place, story.ways, story.word, story.stuck, story.faults


def asked(chain, story):
    """The name that is asked where a story is, or None."""
    row = chain[story.live].row(story.place)
    return row.name if story.stuck is None and isinstance(row, Ask) else None


class Checked(unittest.TestCase):
    def stands(self, work, chain, events, deeds):
        """The work has these events behind it, in one text, and so many deeds can be taken back."""
        events = tuple(events.split(", ")) if isinstance(events, str) else tuple(events)
        self.assertEqual(work.events, events)
        self.assertIs(work.events.__class__, tuple)
        story = play(chain, events)
        self.assertIs(work.played.__class__, Story)
        self.assertEqual(told(work.played), told(story))
        self.assertEqual(work.asks, asked(chain, story))
        self.assertEqual(len(work), deeds)

    def refused(self, work, event, at):
        """The event can't be done, and nothing changes."""
        before = (work.events, told(work.played), work.asks, len(work))
        for call in (lambda: work.do(event), lambda: work.do(event=event), lambda: self.plus(work, event)):
            with self.assertRaises(InvalidEvent) as caught:
                call()
            self.assertIs(caught.exception.__class__, InvalidEvent)
            self.assertIsInstance(caught.exception, LogError)
            self.assertEqual(caught.exception.at, at)
            self.assertEqual((work.events, told(work.played), work.asks, len(work)), before)

    def plus(self, work, event):
        work += event
        return work

    def none_done(self, work, events, at):
        """Several events can't be done, because of the one with this index; nothing changes."""
        before = (work.events, told(work.played), work.asks, len(work))
        kept = list(events)
        with self.assertRaises(Refused) as caught:
            work.several(events)
        self.assertIs(caught.exception.__class__, Refused)
        self.assertIsInstance(caught.exception, LogError)
        self.assertEqual(caught.exception.at, at)
        self.assertIs(caught.exception.__cause__.__class__, InvalidEvent)
        self.assertEqual(caught.exception.__cause__.at, len(before[0]) + at)
        self.assertEqual((work.events, told(work.played), work.asks, len(work)), before)
        self.assertEqual(list(events), kept)


class Begun(Checked):
    def test_by_each_edition(self):
        chain = Chain(EDITIONS, ["d"])
        for at in range(3):
            for work in (Work(chain, at), Work(at=at, chain=chain)):
                self.stands(work, chain, f"begin {at}", 0)
        self.stands(Work(chain), chain, "begin 0", 0)

    def test_any_value_for_the_number(self):
        for size in (1, 2, 3):
            chain = Chain(EDITIONS[:size])
            for value in [*any_values(), -1, -2, -3, 3, 4, 10 ** 30, "0", "begin 0", False, True, None, 0, 1, 2]:
                if isinstance(value, int) and not isinstance(value, bool) and 0 <= value < size:
                    self.stands(Work(chain, value), chain, f"begin {value}", 0)
                    continue
                with self.assertRaises(NoEdition) as caught:
                    Work(chain, value)
                self.assertIs(caught.exception.__class__, NoEdition)
                self.assertIsInstance(caught.exception, IndexError)
                self.assertIs(caught.exception.at, value)

    def test_faults_as_it_is_begun(self):
        work = Work(chain_of("a end", due="x"))
        self.assertEqual((work.played.faults, work.asks, len(work)), (("never",), None, 0))


class Do(Checked):
    def test_the_story_of_the_overview(self):
        chain = Chain(EDITIONS)
        work = Work(chain)
        events = ['begin 0']
        for event in ['answer ok', 'answer ok', 'newer 1', 'mark', 'newer 2']:
            self.stands(work, chain, events, len(events) - 1)
            self.assertEqual(work.do(event), ("stuck",) if event == "newer 2" else ())
            events.append(event)
        self.stands(work, chain, events, 5)
        self.assertEqual((work.played.stuck, work.asks), (2, None))

    def test_only_the_faults_that_are_met_by_it(self):
        chain = chain_of("a ask x y b; b ask z y a", "a ask k y a", "a note w b; b ask x y c; c end", due="x z")
        work = Work(chain)
        found = [work.do(event) for event in ("answer y", "answer y", "answer y", "newer 1", "newer 2")]
        self.assertEqual(found, [(), ("twice",), ("twice",), ("stuck",), ("stuck",)])
        self.assertEqual(work.played.faults, ("stuck", "twice"))
        work = Work(chain)
        self.assertEqual([work.do(event) for event in ("answer y", "newer 2")], [(), ("never", "otherwise")])
        self.assertEqual(work.played.faults, ("never", "otherwise"))

    def test_a_fault_that_is_met_once_more(self):
        chain = chain_of("a ask x y b; b ask x y c; c ask k y d; d ask x y e; e end", due="x")
        work = Work(chain)
        self.assertEqual([work.do("answer y") for _ in range(4)], [("twice",), (), ("twice",), ()])
        self.assertEqual(work.played.faults, ("twice",))

    def test_asks(self):
        chain = chain_of("g mark m a a; a ask x y b; b end", "c ask k y c")
        work = Work(chain)
        self.assertIs(work.asks, None)
        work.do("mark")
        self.assertEqual(work.asks, "x")
        work.do("newer 1")
        self.assertEqual((work.asks, work.played.stuck, work.played.place), (None, 0, "c"))
        work.undo()
        work.do("answer y")
        self.assertIs(work.asks, None)

    def test_plus(self):
        chain = Chain(EDITIONS)
        work = same = Work(chain)
        work += "answer ok"
        self.assertIs(work, same)
        self.stands(same, chain, "begin 0, answer ok", 1)
        work += "newer 2"
        work += "mark"
        self.stands(same, chain, "begin 0, answer ok, newer 2, mark", 3)

    def test_what_can_not_be_done(self):
        chain = Chain(EDITIONS)
        work = Work(chain)
        for event in ("begin 0", "begin 1", "begin 3", "answer no", "answer", "mark", "newer 0", "newer 3", "newer 01",
                      "answer OK", "", "stuck", "undo", "newer", "answer ok ", None, 1, ["answer ok"]):
            self.refused(work, event, 1)
        work.do("answer ok")
        work.do("newer 1")
        for event in ("begin 1", "answer ok", "newer 0", "newer 1", "newer 3", "Mark"):
            self.refused(work, event, 3)
        work.several(["mark", "answer ok"])
        for event in ("answer ok", "mark", "newer 2", "begin 0"):
            self.refused(work, event, 5)

    def test_any_value_for_an_event(self):
        chain = chain_of("g mark m a a; a ask a a b; b end", "a ask k y a")
        for events in ([], ["mark"], ["mark", "answer a"], ["mark", "newer 1"]):
            work = Work(chain)
            work.several(events)
            for value in any_values():
                if isinstance(value, str) and value == "mark" and not events:
                    continue
                self.refused(work, value, len(events) + 1)

    def test_two_works_of_one_chain(self):
        chain = Chain(EDITIONS)
        one, other = Work(chain), Work(chain)
        one.do("answer ok")
        other.several(["newer 1", "answer ok", "mark"])
        self.stands(one, chain, "begin 0, answer ok", 1)
        self.stands(other, chain, "begin 0, newer 1, answer ok, mark", 1)
        other.undo()
        self.stands(one, chain, "begin 0, answer ok", 1)
        self.stands(other, chain, "begin 0", 0)


class Several(Checked):
    def test_all_of_them_are_one_deed(self):
        chain = Chain(EDITIONS)
        for kind in (list, tuple):
            work = Work(chain)
            events = kind(["answer ok", "answer ok", "newer 1", "mark", "newer 2"])
            self.assertEqual(work.several(events), ((), (), (), (), ("stuck",)))
            self.stands(work, chain, ["begin 0", *events], 1)
            self.assertIs(work.undo(), True)
            self.stands(work, chain, "begin 0", 0)
            self.assertEqual(work.several(events=events), ((), (), (), (), ("stuck",)))

    def test_of_one_and_of_none(self):
        chain = Chain(EDITIONS)
        work = Work(chain)
        for empty in ([], ()):
            self.assertEqual(work.several(empty), ())
            self.stands(work, chain, "begin 0", 0)
        self.assertEqual(work.several(["answer ok"]), ((),))
        self.stands(work, chain, "begin 0, answer ok", 1)
        self.assertEqual(work.several([]), ())
        self.stands(work, chain, "begin 0, answer ok", 1)
        self.assertIs(work.undo(), True)
        self.assertIs(work.undo(), False)

    def test_none_of_them(self):
        chain = Chain(EDITIONS)
        work = Work(chain)
        work.do("answer ok")
        right = ["newer 1", "mark", "answer ok"]
        for wrong in ("begin 0", "answer no", None, 7, ["mark"], "newer 0"):
            for at in range(4):
                self.none_done(work, [*right[:at], wrong, *right[at:]], at)
                self.none_done(work, tuple([*right[:at], wrong, *right[at:], None]), at)
        self.none_done(work, [*right, "newer 2"], 3)
        self.stands(work, chain, "begin 0, answer ok", 1)
        self.assertEqual(work.several(right), ((), (), ()))
        self.stands(work, chain, ["begin 0", "answer ok", *right], 2)

    def test_any_value_in_it(self):
        chain = Chain(EDITIONS)
        work = Work(chain)
        for value in any_values():
            self.none_done(work, [value], 0)
            self.none_done(work, ("answer ok", value), 1)
            self.none_done(work, ["answer ok", value, "newer 1"], 1)
        self.stands(work, chain, "begin 0", 0)

    def test_later_changes_have_no_effect(self):
        chain = Chain(EDITIONS)
        work = Work(chain)
        events = ["answer ok", "newer 2"]
        work.several(events)
        events[0] = "answer no"
        events.append("mark")
        self.stands(work, chain, "begin 0, answer ok, newer 2", 1)


class Undo(Checked):
    def test_one_behind_the_other(self):
        chain = Chain(EDITIONS)
        work = Work(chain)
        self.assertIs(work.undo(), False)
        self.stands(work, chain, "begin 0", 0)
        work.do("answer ok")
        work.several(["newer 1", "mark"])
        work += "newer 2"
        self.stands(work, chain, "begin 0, answer ok, newer 1, mark, newer 2", 3)
        self.assertIs(work.undo(), True)
        self.stands(work, chain, "begin 0, answer ok, newer 1, mark", 2)
        self.assertIs(work.undo(), True)
        self.stands(work, chain, "begin 0, answer ok", 1)
        work.do("answer ok")
        self.stands(work, chain, "begin 0, answer ok, answer ok", 2)
        for left in (1, 0):
            self.assertIs(work.undo(), True)
            self.assertEqual(len(work), left)
        for _ in range(3):
            self.assertIs(work.undo(), False)
            self.stands(work, chain, "begin 0", 0)

    def test_faults_are_taken_back(self):
        chain = Chain(EDITIONS)
        work = Work(chain)
        work.several(["answer ok", "answer ok", "newer 1", "mark"])
        work.do("newer 2")
        self.assertEqual(work.played.faults, ("stuck",))
        work.undo()
        self.assertEqual(work.played.faults, ())

    def test_what_was_returned_stays(self):
        chain = Chain(EDITIONS)
        work = Work(chain)
        work.do("answer ok")
        events, story = work.events, work.played
        kept = told(story)
        work.do("newer 1")
        work.undo()
        work.undo()
        self.assertEqual((events, told(story)), (("begin 0", "answer ok"), kept))

    def test_a_refused_event_is_no_deed(self):
        chain = Chain(EDITIONS)
        work = Work(chain)
        work.do("answer ok")
        self.refused(work, "mark", 2)
        self.none_done(work, ["answer ok", "mark"], 1)
        self.assertIs(work.undo(), True)
        self.stands(work, chain, "begin 0", 0)


class Blocks(Checked):
    def begun(self):
        chain = Chain(EDITIONS)
        work = Work(chain)
        work.do("answer ok")
        return chain, work

    def test_a_block_is_taken_back(self):
        chain, work = self.begun()
        with work.trial() as held:
            self.assertIs(held, work)
            self.stands(work, chain, "begin 0, answer ok", 1)
            work.do("newer 1")
            work.do("mark")
            self.stands(work, chain, "begin 0, answer ok, newer 1, mark", 3)
        self.stands(work, chain, "begin 0, answer ok", 1)
        self.assertIs(work.undo(), True)
        self.stands(work, chain, "begin 0", 0)

    def test_what_could_be_taken_back_is_there_again(self):
        chain, work = self.begun()
        with work.trial():
            self.assertIs(work.undo(), True)
            self.assertIs(work.undo(), False)
            self.stands(work, chain, "begin 0", 0)
            work.several(["newer 2", "answer ok", "mark"])
        self.stands(work, chain, "begin 0, answer ok", 1)
        self.assertIs(work.undo(), True)
        self.stands(work, chain, "begin 0", 0)

    def test_left_by_an_error(self):
        for error in (ValueError, KeyError, ZeroDivisionError, KeyboardInterrupt):
            chain, work = self.begun()
            made = error("no")
            with self.assertRaises(error) as caught:
                with work.trial():
                    work.do("newer 1")
                    raise made
            self.assertIs(caught.exception, made)
            self.stands(work, chain, "begin 0, answer ok", 1)

    def test_left_by_a_refused_event(self):
        chain, work = self.begun()
        with self.assertRaises(InvalidEvent) as caught:
            with work.trial():
                work.do("newer 1")
                work.do("answer ok")
        self.assertEqual(caught.exception.at, 3)
        self.stands(work, chain, "begin 0, answer ok", 1)
        with self.assertRaises(Refused) as caught:
            with work.trial():
                work.several(["newer 1", "mark", "mark"])
        self.assertEqual(caught.exception.at, 2)
        self.stands(work, chain, "begin 0, answer ok", 1)

    def test_left_early(self):
        chain, work = self.begun()
        for _ in range(3):
            with work.trial():
                work.do("newer 1")
                continue
        self.stands(work, chain, "begin 0, answer ok", 1)

        def returned():
            with work.trial() as held:
                held.do("newer 2")
                return held.events

        self.assertEqual(returned(), ("begin 0", "answer ok", "newer 2"))
        self.stands(work, chain, "begin 0, answer ok", 1)

    def test_it_is_as_it_was_when_the_block_was_entered(self):
        chain, work = self.begun()
        block = work.trial()
        work.do("newer 1")
        self.stands(work, chain, "begin 0, answer ok, newer 1", 2)
        with block:
            work.do("mark")
        self.stands(work, chain, "begin 0, answer ok, newer 1", 2)
        self.assertIsNot(work.trial(), work.trial())

    def test_blocks_within_one_another(self):
        chain, work = self.begun()
        with work.trial():
            work.do("newer 1")
            with work.trial() as held:
                self.assertIs(held, work)
                work.undo()
                work.undo()
                work.several(["answer ok", "answer ok"])
                with self.assertRaises(InvalidEvent):
                    with work.trial():
                        work.do("newer 2")
                        work.do("begin 0")
                self.stands(work, chain, "begin 0, answer ok, answer ok", 1)
            self.stands(work, chain, "begin 0, answer ok, newer 1", 2)
            work.do("mark")
        self.stands(work, chain, "begin 0, answer ok", 1)

    def test_blocks_of_two_works(self):
        chain, work = self.begun()
        other = Work(chain, 2)
        with work.trial(), other.trial():
            work.do("newer 1")
            other.do("answer ok")
            with work.trial():
                work.undo()
                other.do("mark")
        self.stands(work, chain, "begin 0, answer ok", 1)
        self.stands(other, chain, "begin 2", 0)

    def test_within(self):
        chain, work = self.begun()
        seen = []

        def deed(held):
            seen.append(held)
            held.do("newer 1")
            return held.do("mark"), held.events

        self.assertEqual(work.within(deed), ((), ("begin 0", "answer ok", "newer 1", "mark")))
        self.assertIs(seen[0], work)
        self.stands(work, chain, "begin 0, answer ok", 1)
        self.assertEqual(work.within(deed=len), 1)
        self.assertIs(work.within(lambda held: None), None)
        self.assertIs(work.within(lambda held: held), work)

    def test_within_it_goes_wrong(self):
        chain, work = self.begun()

        def deed(held):
            held.do("newer 1")
            held.do("newer 1")

        with self.assertRaises(InvalidEvent) as caught:
            work.within(deed)
        self.assertEqual(caught.exception.at, 3)
        self.stands(work, chain, "begin 0, answer ok", 1)
        made = RuntimeError("no")

        def other(held):
            held.undo()
            raise made

        with self.assertRaises(RuntimeError) as caught:
            work.within(other)
        self.assertIs(caught.exception, made)
        self.stands(work, chain, "begin 0, answer ok", 1)

    def test_within_within(self):
        chain, work = self.begun()
        found = work.within(lambda held: (held.do("newer 1"), held.within(lambda same: same.several(["mark"])),
                                          held.events))
        self.assertEqual(found, ((), ((),), ("begin 0", "answer ok", "newer 1")))
        self.stands(work, chain, "begin 0, answer ok", 1)


class Kinds(Checked):
    def test_works_are_not_iterable(self):
        work = Work(Chain(EDITIONS))
        for value in (work, work.trial()):
            self.assertRaises(TypeError, iter, value)
            self.assertRaises(TypeError, list, value)
            with self.assertRaises(TypeError):
                0 in value

    def test_properties_are_read_only(self):
        work = Work(Chain(EDITIONS))
        for name in ("events", "played", "asks"):
            self.assertIsInstance(vars(Work)[name], property)
            with self.assertRaises(AttributeError):
                setattr(work, name, ())

    def test_the_chain_is_not_changed(self):
        chain = Chain(EDITIONS, ["d"])
        text = str(chain)
        work = Work(chain, 1)
        work.several(["answer ok", "mark", "answer ok"])
        work.undo()
        self.assertEqual((str(chain), chain.editions), (text, tuple(EDITIONS)))

    def test_the_same_call_again(self):
        work = Work(Chain(EDITIONS))
        work.do("answer ok")
        self.assertEqual([(work.events, told(work.played), work.asks, len(work)) for _ in range(2)],
                         [(("begin 0", "answer ok"), told(work.played), "b", 1)] * 2)


class Compared(Checked):
    """A work is where the same events lead when they are played from the top."""

    EVENTS = ["mark", "answer y", "answer n", "answer k", "newer 0", "newer 1", "newer 2", "begin 0", None]

    def can(self, chain, events):
        try:
            return play(chain, events)
        except InvalidEvent:
            return None

    def test_many_works(self):
        chance = chances(10)
        done = {}
        for _ in range(60):
            chain = some_chain(chance)
            at = chance.randrange(len(chain))
            work, events, past = Work(chain, at), [f"begin {at}"], []
            for _ in range(25):
                kind = chance.choice(["do", "do", "plus", "several", "undo"])
                size = chance.choice([0, 1, 2, 3]) if kind == "several" else 1
                more = []
                for _ in range(size):
                    can = [event for event in self.EVENTS if self.can(chain, [*events, *more, event])]
                    more.append(chance.choice(can if can and chance.random() < 0.9 else self.EVENTS))
                if kind == "undo":
                    self.assertIs(work.undo(), len(past) > 0)
                    events = past.pop() if past else events
                elif self.can(chain, [*events, *more]) is None:
                    kind = f"{kind} refused"
                    if kind == "several refused":
                        right = [at for at in range(size) if self.can(chain, [*events, *more[:at]])]
                        self.none_done(work, more, len(right) - 1)
                    else:
                        self.refused(work, more[0], len(events))
                else:
                    self.done(work, chain, events, kind, more)
                    past += [events] if more else []
                    events = [*events, *more]
                done[kind] = done.get(kind, 0) + 1
                self.stands(work, chain, events, len(past))
        self.assertGreater(min(done.values()), 20)
        self.assertEqual(len(done), 7)

    def done(self, work, chain, before, kind, events):
        """Do the events this way; the faults that are met by each are those by the document's words."""
        texts = [str(edition) for edition in chain.editions]
        stories = [story_of(texts, chain.due, [*before, *events[:at]])[:6] for at in range(len(events) + 1)]
        expected = [tuple(sorted(met(texts, chain.due, now, ahead))) for ahead, now in zip(stories, stories[1:])]
        if kind == "several":
            self.assertEqual(work.several(events), tuple(expected))
        elif kind == "do":
            self.assertEqual(work.do(events[0]), expected[0])
        else:
            same = work
            work += events[0]
            self.assertIs(work, same)
