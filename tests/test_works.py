"""[12] to [14]: works, their events, the faults that they meet, and what is told of them; with [1] and [2]."""

import unittest

from elderlogs.chains import Chain
from elderlogs.editions import Edition
from elderlogs.errors import InvalidEvent, LogError
from elderlogs.works import Story, play
from tests.reference import chances, some_chain, story_of
from tests.values import E0, E1, E2, any_values, edition_of

EDITIONS = [Edition.read(E0), Edition.read(E1), Edition.read(E2)]


def told(story):
    """What a story tells, as a tuple."""
    return story.live, story.log, story.place, story.ways, story.word, story.stuck, story.faults


def referred(chain, events):
    """What the document's words tell, or the index of the event at which they are refused."""
    return story_of([str(edition) for edition in chain.editions], chain.due, events)


class Checked(unittest.TestCase):
    def play(self, chain, events):
        """The story of a work with these events, in one text."""
        parts = events.split(", ")
        story = play(chain, parts)
        self.assertIs(story.__class__, Story)
        self.assertEqual(told(play(chain, tuple(parts))), told(story))
        self.assertEqual(referred(chain, parts), told(story))
        return story

    def faults(self, chain, events, faults=""):
        """The faults that are met are these."""
        with self.subTest(chain=str(chain), events=events):
            self.assertEqual(self.play(chain, events).faults, tuple(faults.split()))

    def refused(self, chain, value, at):
        with self.subTest(chain=str(chain), value=value):
            with self.assertRaises(InvalidEvent) as caught:
                play(chain, value)
            self.assertIs(caught.exception.__class__, InvalidEvent)
            self.assertIsInstance(caught.exception, LogError)
            self.assertEqual(caught.exception.at, at)
            self.assertIs(caught.exception.at.__class__, int)

    def stops(self, chain, events, *wrongs):
        """Behind these events, in one text, none of the wrong ones can happen, and nothing behind them counts."""
        parts = events.split(", ")
        play(chain, parts)
        for wrong in wrongs:
            self.refused(chain, [*parts, wrong], len(parts))
            self.refused(chain, (*parts, wrong, wrong, None), len(parts))


class Begin(Checked):
    def test_each_edition_begins_works(self):
        chain = Chain([edition_of("a end"), edition_of("b note w c; c ask x y b"), edition_of("g mark m h h; h end")])
        self.assertEqual(told(self.play(chain, "begin 0")), (0, (), "a", (), None, None, ()))
        self.assertEqual(told(self.play(chain, "begin 1")), (1, (), "c", (), "w", None, ()))
        self.assertEqual(told(self.play(chain, "begin 2")), (2, (), "g", (), None, None, ()))

    def test_numbers_of_no_edition(self):
        for size in range(1, 4):
            chain = Chain(EDITIONS[:size])
            for number in [size, size + 1, 9, 10, 11, 100, 10 ** 30]:
                self.refused(chain, [f"begin {number}"], 0)
            self.refused(chain, ["begin " + "9" * 6000], 0)

    def test_numbers_are_decimal_digits_without_leading_zeros(self):
        chain = Chain(EDITIONS)
        for number in ("", "00", "01", "000", "-0", "+0", "-1", "+1", " 0", "0 ", "1.0", "0x0", "a", "1_0", "one",
                       "0b1", "\u0660", "\uff11", "\xb2", "\xb9", "0\n", "\n0", "0 0", "0,", "1e0", "True", "None"):
            self.refused(chain, ["begin " + number], 0)
            self.stops(chain, "begin 0", "newer " + number)

    def test_edition_ten(self):
        chain = Chain([edition_of("a ask x y a")] * 12)
        self.assertEqual(self.play(chain, "begin 10, newer 11").live, 11)
        self.refused(chain, ["begin 010"], 0)
        self.stops(chain, "begin 2", "newer 1", "newer 010", "newer 12", "newer 2", "newer 02")

    def test_it_is_the_first_event(self):
        chain = Chain(EDITIONS)
        for event in ("answer ok", "answer a", "mark", "newer 0", "newer 1", "newer 2"):
            self.refused(chain, [event], 0)
            self.refused(chain, [event, "begin 0"], 0)

    def test_and_no_other_one(self):
        chain = Chain(EDITIONS)
        begins = ["begin 0", "begin 1", "begin 2"]
        for events in ("begin 0", "begin 1", "begin 0, answer ok", "begin 0, newer 1", "begin 1, answer ok, mark",
                       "begin 2, answer ok, mark, answer ok", "begin 0, answer ok, answer ok, newer 2"):
            self.stops(chain, events, *begins)

    def test_what_is_written_otherwise(self):
        for event in ("begin", "Begin 0", "begin0", "begin  0", " begin 0", "begin\t0", "begin 0;", "begins 0", ""):
            self.refused(Chain(EDITIONS), [event], 0)


class Answer(Checked):
    def setUp(self):
        self.chain = Chain([edition_of("a ask pay yes b no g; b ask fee k a; g mark m e b; e end")])

    def test_answers_that_are_taken(self):
        self.assertEqual(told(self.play(self.chain, "begin 0, answer yes")),
                         (0, (("pay", "yes"),), "b", (), None, None, ()))
        self.assertEqual(told(self.play(self.chain, "begin 0, answer yes, answer k, answer no")),
                         (0, (("pay", "yes"), ("fee", "k"), ("pay", "no")), "g", (), None, None, ()))

    def test_answers_that_are_not_taken(self):
        self.stops(self.chain, "begin 0", "answer k", "answer ok", "answer b", "answer pay", "answer a", "answer m")
        self.stops(self.chain, "begin 0, answer yes", "answer yes", "answer no", "answer fee", "answer a")

    def test_what_is_written_otherwise(self):
        for event in ("answer", "answer ", "answer  yes", "answer yes ", " answer yes", "answer yes no", "Answer yes",
                      "yes", "answer Yes", "answeryes", "answer yes\n", "answer pay yes", "pay yes", "answer\tyes",
                      "answer,yes"):
            self.stops(self.chain, "begin 0", event)

    def test_at_a_gate_there_is_none(self):
        self.stops(self.chain, "begin 0, answer no", "answer yes", "answer no", "answer k", "answer m", "answer e")

    def test_it_is_the_live_edition_that_takes_it(self):
        chain = Chain([edition_of("a ask x y b n b; b end"), edition_of("a ask x y b k b; b end")])
        self.assertEqual(self.play(chain, "begin 0, answer n").log, (("x", "n"),))
        self.assertEqual(self.play(chain, "begin 0, newer 1, answer k").log, (("x", "k"),))
        self.stops(chain, "begin 0", "answer k")
        self.stops(chain, "begin 0, newer 1", "answer n")


class Mark(Checked):
    def test_the_mark_of_the_gate_where_it_waits(self):
        chain = Chain([edition_of("a ask x y g; g mark m h b; h mark k b c; b end; c ask z y b")])
        self.assertEqual(told(self.play(chain, "begin 0, answer y")), (0, (("x", "y"),), "g", (), None, None, ()))
        self.assertEqual(told(self.play(chain, "begin 0, answer y, mark")),
                         (0, (("x", "y"), ("m",)), "h", (("m", True),), None, None, ()))
        self.assertEqual(told(self.play(chain, "begin 0, answer y, mark, mark")),
                         (0, (("x", "y"), ("m",), ("k",)), "b", (("k", True), ("m", True)), None, None, ()))

    def test_at_an_ask_there_is_none(self):
        chain = Chain([edition_of("a ask m y g; g mark m b b; b ask x y b"), EDITIONS[0]])
        self.stops(chain, "begin 0", "mark")
        self.stops(chain, "begin 0, answer y, mark", "mark")
        self.stops(chain, "begin 0, answer y, mark, answer y", "mark")
        self.stops(chain, "begin 1", "mark")

    def test_what_is_written_otherwise(self):
        chain = Chain([edition_of("g mark m b b; b ask x y b")])
        self.stops(chain, "begin 0", "mark m", "mark ", " mark", "Mark", "m", "marks", "mark 0", "mark\n", "")

    def test_a_gate_that_is_decided_is_gone_through(self):
        chain = Chain([edition_of("g mark m b c; b ask x y g; c end")])
        self.assertEqual(told(self.play(chain, "begin 0, mark, answer y, answer y")),
                         (0, (("m",), ("x", "y"), ("x", "y")), "b", (("m", True),), None, None, ()))
        self.stops(chain, "begin 0, mark, answer y", "mark")

    def test_elder_works_go_the_elder_way(self):
        chain = Chain([edition_of("a ask x y b; b ask z y c; c end"),
                       edition_of("a ask x y g; g mark m t b; t ask k y c; b ask z y h; h mark m c e; c end; e end")])
        self.assertEqual(told(self.play(chain, "begin 0, answer y, answer y")),
                         (0, (("x", "y"), ("z", "y")), "c", (), None, None, ()))
        chain = Chain([edition_of("a ask x y b; b ask z y c; c ask k y c"), *chain.editions[1:]])
        self.assertEqual(told(self.play(chain, "begin 0, answer y, answer y, newer 1")),
                         (1, (("x", "y"), ("z", "y")), "e", (("m", False),), None, None, ()))
        self.assertEqual(self.play(chain, "begin 0, answer y, newer 1, mark").place, "t")


class Newer(Checked):
    def test_later_editions_only(self):
        chain = Chain(EDITIONS)
        self.assertEqual(self.play(chain, "begin 0, newer 1").live, 1)
        self.assertEqual(self.play(chain, "begin 0, newer 2").live, 2)
        self.assertEqual(self.play(chain, "begin 0, newer 1, newer 2").live, 2)
        self.stops(chain, "begin 0", "newer 0", "newer 3", "newer 10", "newer -1")
        self.stops(chain, "begin 1", "newer 0", "newer 1", "newer 3")
        self.stops(chain, "begin 2", "newer 0", "newer 1", "newer 2", "newer 3")
        self.stops(chain, "begin 0, newer 1", "newer 0", "newer 1", "newer 3")
        self.stops(chain, "begin 0, newer 2", "newer 0", "newer 1", "newer 2", "newer 3")

    def test_the_log_stays(self):
        chain = Chain(EDITIONS)
        self.assertEqual(told(self.play(chain, "begin 0, answer ok, newer 1")),
                         (1, (("a", "ok"),), "q", (), None, None, ()))
        self.assertEqual(told(self.play(chain, "begin 0, answer ok, answer ok, newer 1")),
                         (1, (("a", "ok"), ("b", "ok")), "v", (("m", False),), None, None, ()))
        self.assertEqual(told(self.play(chain, "begin 0, answer ok, answer ok, newer 1, mark, newer 2")),
                         (2, (("a", "ok"), ("b", "ok"), ("n",)), "r", (("m", False),), None, 2, ("stuck",)))

    def test_what_is_written_otherwise(self):
        self.stops(Chain(EDITIONS), "begin 0", "newer", "newer ", "Newer 1", "newer1", "newer  1", " newer 1",
                   "newer 1 ", "newer 1 2", "newer one", "newest 1", "1", "newer\t1")

    def test_at_a_gate(self):
        chain = Chain([edition_of("g mark m b c; b ask x y c; c end"), edition_of("b ask x y c; c end", "m")])
        self.assertEqual(told(self.play(chain, "begin 0, newer 1")), (1, (), "b", (), None, None, ()))
        self.assertEqual(told(self.play(chain, "begin 0, mark, newer 1, answer y")),
                         (1, (("m",), ("x", "y")), "c", (), None, None, ()))


class Ended(Checked):
    ANYTHING = ["begin 0", "begin 1", "answer y", "answer n", "mark", "newer 0", "newer 1", "newer 2", "newer 3", None]

    def test_nothing_happens_behind_an_end(self):
        chain = Chain([edition_of("a ask x y b n a; b end"), edition_of("a ask x y b; b end"),
                       edition_of("g mark m b a; a ask x y b; b end")])
        self.stops(chain, "begin 0, answer y", *self.ANYTHING)
        self.stops(chain, "begin 0, answer n, answer n, answer y", *self.ANYTHING)
        self.stops(chain, "begin 0, newer 1, answer y", *self.ANYTHING)
        self.stops(chain, "begin 2, mark", *self.ANYTHING)

    def test_a_work_that_ends_as_it_is_begun(self):
        chain = Chain([edition_of("a end"), edition_of("a note w b; b end"), edition_of("a ask x y a")])
        self.stops(chain, "begin 0", *self.ANYTHING)
        self.stops(chain, "begin 1", *self.ANYTHING)

    def test_a_newer_edition_that_is_at_an_end(self):
        chain = Chain([edition_of("a ask x y b; b ask z y b"), edition_of("a ask x y b; b end"),
                       edition_of("a ask x y b; b ask z y b")])
        self.stops(chain, "begin 0, answer y, newer 1", *self.ANYTHING)

    def test_stuck_at_an_end_it_is_not_over(self):
        chain = Chain([edition_of("a ask x y a"), edition_of("b end"), edition_of("c ask x y c")])
        events = "begin 0, answer y, newer 1"
        self.assertEqual(told(self.play(chain, events)), (1, (("x", "y"),), "b", (), None, 0, ("stuck",)))
        self.stops(chain, events, "begin 2", "answer y", "mark", "newer 0", "newer 1", "newer 3")
        self.assertEqual(told(self.play(chain, events + ", newer 2, answer y")),
                         (2, (("x", "y"), ("x", "y")), "c", (), None, None, ("stuck",)))


class Stuck(Checked):
    def setUp(self):
        self.chain = Chain([edition_of("a ask x y b; b ask z y b"),
                            edition_of("a note w b; b ask k y b z b"), edition_of("a ask x y g; g mark z a a")])

    def test_only_a_later_one_can_take_over(self):
        events = "begin 0, answer y, newer 1"
        self.assertEqual(told(self.play(self.chain, events)), (1, (("x", "y"),), "b", (), "w", 0, ("stuck",)))
        self.stops(self.chain, events, "answer y", "answer z", "answer x", "mark", "newer 0", "newer 1", "newer 3",
                   "begin 1")
        self.assertEqual(told(self.play(self.chain, events + ", newer 2")),
                         (2, (("x", "y"),), "g", (), None, None, ("stuck",)))

    def test_the_last_one_for_ever(self):
        events = "begin 0, answer y, answer y, newer 2"
        self.assertEqual(told(self.play(self.chain, events)),
                         (2, (("x", "y"), ("z", "y")), "a", (("z", False),), None, 1, ("stuck",)))
        self.stops(self.chain, events, "mark", "answer y", "newer 0", "newer 1", "newer 2", "newer 3", "begin 0",
                   "begin 2")


class StuckFault(Checked):
    def test_met_and_just_not_met(self):
        chain = Chain([edition_of("a ask x y b n b; b ask z y b"), edition_of("a ask x y b; b ask z y b")])
        self.faults(chain, "begin 0, answer y, newer 1")
        self.faults(chain, "begin 0, answer n")
        self.faults(chain, "begin 0, answer n, newer 1", "stuck")
        self.faults(chain, "begin 0, newer 1")

    def test_by_a_mark_that_a_newer_edition_does_not_know(self):
        chain = Chain([edition_of("g mark m b b; b ask x y b"), edition_of("b ask x y b"),
                       edition_of("b ask x y b", "m")])
        self.faults(chain, "begin 0, newer 1")
        self.faults(chain, "begin 0, mark, newer 1", "stuck")
        self.faults(chain, "begin 0, mark, newer 2")

    def test_it_was_met_and_is_not_there_any_more(self):
        chain = Chain([edition_of("a ask x y b; b ask z y c; c end"), edition_of("a ask k y b; b end"),
                       edition_of("a ask x y b; b ask z y c; c end")])
        story = self.play(chain, "begin 0, answer y, newer 1, newer 2, answer y")
        self.assertEqual((story.stuck, story.place, story.faults), (None, "c", ("stuck",)))
        self.faults(chain, "begin 0, answer y, newer 2, answer y")

    def test_no_other_fault_is_met_by_what_is_stuck(self):
        # It is stuck at an ask of a due name that has its answer, at an end, and behind another word.
        chain = Chain([edition_of("a ask x y b; b ask z y b"), edition_of("a ask x y b; b note w c; c ask x y c"),
                       edition_of("a note w b; b end"), edition_of("a ask z y a")], ["x", "k"])
        self.faults(chain, "begin 0, answer y, answer y")
        self.faults(chain, "begin 0, answer y, answer y, newer 1", "stuck")
        self.faults(chain, "begin 0, answer y, answer y, newer 2", "stuck")
        self.faults(chain, "begin 0, answer y, answer y, newer 3", "stuck")


class TwiceFault(Checked):
    def setUp(self):
        self.again = edition_of("a ask x y b; b ask z y c n d; c ask x y d; d end")

    def test_by_an_answer(self):
        for due, faults in ((["x"], "twice"), ([], ""), (["z"], ""), (["z", "x"], "twice")):
            chain = Chain([self.again], due)
            self.faults(chain, "begin 0")
            self.faults(chain, "begin 0, answer y")
            self.faults(chain, "begin 0, answer y, answer y", faults)
            self.faults(chain, "begin 0, answer y, answer n")

    def test_it_stays_behind_it(self):
        self.faults(Chain([self.again], ["x"]), "begin 0, answer y, answer y, answer y", "twice")

    def test_it_is_met_as_it_is_asked(self):
        chain = Chain([edition_of("a ask x y a n b; b end")], ["x"])
        self.faults(chain, "begin 0")
        self.faults(chain, "begin 0, answer n")
        self.faults(chain, "begin 0, answer y", "twice")

    def test_by_a_newer_edition(self):
        chain = Chain([edition_of("a ask x y b; b ask z y b"), edition_of("a ask x y b; b ask x y b"),
                       edition_of("a ask x y b; b ask z y b")], ["x"])
        self.faults(chain, "begin 0, answer y")
        self.faults(chain, "begin 0, answer y, newer 1", "twice")
        self.faults(chain, "begin 0, answer y, newer 1, newer 2", "twice")
        self.faults(chain, "begin 0, newer 1")
        self.faults(chain, "begin 0, answer y, newer 2")

    def test_by_a_mark(self):
        chain = Chain([edition_of("a ask x y g; g mark m b b; b ask x y b")], ["x"])
        # At the gate ahead of it nothing is asked.
        self.faults(chain, "begin 0, answer y")
        self.faults(chain, "begin 0, answer y, mark", "twice")

    def test_another_answer_counts_too(self):
        chain = Chain([edition_of("a ask x y b n b; b ask x y b k b")], ["x"])
        self.faults(chain, "begin 0, answer n", "twice")

    def test_a_mark_is_no_answer(self):
        chain = Chain([edition_of("g mark x b b; b ask x y c; c ask z y c")], ["x"])
        self.faults(chain, "begin 0, mark")
        self.faults(chain, "begin 0, mark, answer y")
        chain = Chain([edition_of("a ask z x b; b ask x y c; c ask z x c")], ["x"])
        self.faults(chain, "begin 0, answer x, answer y, answer x")


class NeverFault(Checked):
    def test_by_an_answer(self):
        chain = Chain([edition_of("a ask x y b n c; b ask z y c; c end")], ["z"])
        self.faults(chain, "begin 0")
        self.faults(chain, "begin 0, answer n", "never")
        self.faults(chain, "begin 0, answer y")
        self.faults(chain, "begin 0, answer y, answer y")

    def test_as_it_is_begun(self):
        self.faults(Chain([edition_of("a end")], ["z"]), "begin 0", "never")
        self.faults(Chain([edition_of("a note w b; b end")], ["z"]), "begin 0", "never")
        self.faults(Chain([edition_of("a end")]), "begin 0")

    def test_by_a_mark(self):
        chain = Chain([edition_of("g mark m b b; b end")], ["z"])
        self.faults(chain, "begin 0")
        self.faults(chain, "begin 0, mark", "never")

    def test_by_a_newer_edition(self):
        chain = Chain([edition_of("a ask x y b; b ask z y b"), edition_of("a ask x y b; b end")], ["z"])
        self.faults(chain, "begin 0, answer y")
        self.faults(chain, "begin 0, answer y, newer 1", "never")
        self.faults(Chain(chain.editions, ["x"]), "begin 0, answer y, newer 1")

    def test_some_of_several_due_names(self):
        edition = edition_of("a ask x y b n d; b ask z y c n d; c ask k y d; d end")
        self.faults(Chain([edition], ["x", "z", "k"]), "begin 0, answer y, answer y, answer y")
        self.faults(Chain([edition], ["x", "z", "k"]), "begin 0, answer y, answer n", "never")
        self.faults(Chain([edition], ["x", "z"]), "begin 0, answer y, answer n")
        self.faults(Chain([edition], ["x", "z"]), "begin 0, answer n", "never")
        self.faults(Chain([edition], ["x"]), "begin 0, answer n")
        self.faults(Chain([edition], ["k"]), "begin 0, answer y, answer n", "never")

    def test_a_due_name_that_is_asked_nowhere(self):
        chain = Chain([edition_of("a ask x y b; b end")], ["pay"])
        self.faults(chain, "begin 0")
        self.faults(chain, "begin 0, answer y", "never")

    def test_a_mark_and_an_answer_with_its_name_are_none(self):
        chain = Chain([edition_of("g mark z b b; b ask x z c; c end")], ["z"])
        self.faults(chain, "begin 0, mark, answer z", "never")

    def test_what_stands_at_no_end_has_time(self):
        chain = Chain([edition_of("a ask x y a; b end")], ["z"])
        self.faults(chain, "begin 0, answer y, answer y, answer y")


class OtherwiseFault(Checked):
    def pair(self, elder, newer, drops=""):
        return Chain([edition_of(elder), edition_of(newer, drops)])

    def test_with_another_word(self):
        self.faults(self.pair("a note v b; b ask x y b", "a note w b; b ask x y b"), "begin 0, newer 1", "otherwise")
        self.faults(self.pair("a note v b; b ask x y b", "a note v b; b ask x y b"), "begin 0, newer 1")
        self.faults(self.pair("b ask x y b", "a note w b; b ask x y b"), "begin 0, newer 1", "otherwise")
        self.faults(self.pair("a note v b; b ask x y b", "b ask x y b"), "begin 0, newer 1", "otherwise")
        self.faults(self.pair("b ask x y b", "b ask x y b"), "begin 0, newer 1")

    def test_only_the_last_words_count(self):
        self.faults(self.pair("a note v b; b note w c; c ask x y b", "a note w b; b ask x y b"), "begin 0, newer 1")
        self.faults(self.pair("a note v b; b note w c; c ask x y b", "a note v b; b ask x y b"), "begin 0, newer 1",
                    "otherwise")

    def test_it_stands_at_an_end(self):
        self.faults(self.pair("b ask x y b", "a note w b; b end"), "begin 0, newer 1", "otherwise")
        self.faults(self.pair("b ask x y b", "b end"), "begin 0, newer 1")

    def test_it_asks_another_name(self):
        self.faults(self.pair("b ask x y b", "a note w b; b ask z y b"), "begin 0, newer 1", "otherwise")

    def test_it_waits_at_a_gate(self):
        chain = self.pair("b ask x y b", "a note w g; g mark m b b; b ask x y b")
        self.faults(chain, "begin 0, newer 1")
        self.faults(chain, "begin 0, newer 1, mark, answer y")
        self.faults(chain, "begin 0, answer y, newer 1", "otherwise")

    def test_it_is_stuck(self):
        self.faults(self.pair("b ask x y b", "a note w b; b ask z y b"), "begin 0, answer y, newer 1", "stuck")
        self.faults(self.pair("b ask x y b", "a note w b; b end"), "begin 0, answer y, newer 1", "stuck")

    def test_the_one_ahead_of_it_waited_at_a_gate(self):
        chain = self.pair("g mark m b b; b ask x y b", "a note w b; b ask x y b", "m")
        self.faults(chain, "begin 0, newer 1")
        self.faults(chain, "begin 0, mark, newer 1", "otherwise")

    def test_the_one_ahead_of_it_was_stuck(self):
        chain = Chain([edition_of("b ask x y b"), edition_of("b ask z y b"), edition_of("a note w b; b ask x y b")])
        self.faults(chain, "begin 0, answer y, newer 1, newer 2", "stuck")
        self.faults(chain, "begin 0, answer y, newer 2", "otherwise")

    def test_by_taking_over_only(self):
        chain = self.pair("a ask x y b; b note v c; c ask x y b", "a ask x y b; b note w c; c note v d; d ask x y b")
        self.faults(chain, "begin 0, answer y, answer y")
        self.faults(chain, "begin 0, newer 1, answer y, answer y")
        self.faults(chain, "begin 0, answer y, newer 1")
        self.faults(self.pair("a ask x y a", "a ask x y b; b note v c; c ask x y b"), "begin 0, newer 1, answer y")

    def test_it_is_the_one_just_ahead_of_it(self):
        chain = Chain([edition_of("a note v b; b ask x y b"), edition_of("g mark m b b; b ask x y b"),
                       edition_of("a note w b; b ask x y b", "m")])
        # The gate is in between: neither way over is told otherwise.
        self.faults(chain, "begin 0, newer 1, newer 2")
        self.faults(chain, "begin 0, newer 2", "otherwise")
        self.faults(chain, "begin 0, newer 1, mark, newer 2", "otherwise")

    def test_it_was_met_and_is_not_there_any_more(self):
        chain = Chain([edition_of("a note v b; b ask x y b"), edition_of("a note w b; b ask x y b"),
                       edition_of("a note w b; b ask x y b")])
        self.faults(chain, "begin 0, newer 1, newer 2, answer y", "otherwise")
        self.faults(chain, "begin 1, newer 2, answer y")


class SeveralFaults(Checked):
    def test_by_one_event(self):
        chain = Chain([edition_of("a ask x y b; b ask z y b"), edition_of("a note w b; b ask x y c; c end"),
                       edition_of("a note w b; b ask x y c; c ask x y c")], ["x", "z"])
        self.faults(chain, "begin 0, answer y, newer 1", "never otherwise")
        self.faults(chain, "begin 0, answer y, newer 2", "otherwise twice")

    def test_all_of_them_ascending_each_once(self):
        chain = Chain([
            edition_of("a ask x y b; b ask z y a"),
            edition_of("a ask k y a"),
            edition_of("a ask x y b; b ask x y b"),
            edition_of("a note w b; b ask x y c; c end"),
        ], ["x", "z"])
        self.faults(chain, "begin 0, answer y, newer 1", "stuck")
        self.faults(chain, "begin 0, answer y, newer 1, newer 2", "stuck twice")
        self.faults(chain, "begin 0, answer y, newer 1, newer 2, newer 3", "never otherwise stuck twice")
        self.faults(chain, "begin 0, answer y, newer 2, newer 3", "never otherwise twice")
        self.faults(chain, "begin 0, answer y, answer y, answer y, newer 1, newer 3", "stuck twice")


class Kinds(Checked):
    def test_the_example(self):
        e0, e1, e2 = EDITIONS
        played = play(Chain([e0, e1, e2]), ["begin 0", "answer ok", "newer 1", "mark", "newer 2", "answer ok"])
        self.assertEqual((played.live, played.log, played.place, played.faults),
                         (2, (('a', 'ok'), ('m',), ('c', 'ok')), 's', ()))

    def test_the_story_of_the_overview(self):
        chain = Chain(EDITIONS)
        self.faults(chain, "begin 0, answer ok, answer ok, newer 1, mark, newer 2", "stuck")
        self.faults(chain, "begin 0, answer ok, answer ok, newer 1, mark")

    def test_kinds_of_attributes(self):
        for events in ("begin 0", "begin 0, answer ok, newer 1, mark",
                       "begin 0, answer ok, answer ok, newer 1, mark, newer 2"):
            story = self.play(Chain(EDITIONS, ["d"]), events)
            for value in (story.log, story.ways, story.faults, *story.log, *story.ways):
                self.assertIs(value.__class__, tuple)
            self.assertEqual((story.live.__class__, story.place.__class__), (int, str))

    def test_by_name(self):
        chain = Chain(EDITIONS)
        self.assertEqual(told(play(chain=chain, events=["begin 1"])), told(play(events=("begin 1",), chain=chain)))

    def test_nothing_is_changed(self):
        chain, events = Chain(EDITIONS, ["d"]), ["begin 0", "answer ok", "newer 1"]
        text = str(chain)
        story = play(chain, events)
        self.assertEqual((str(chain), events), (text, ["begin 0", "answer ok", "newer 1"]))
        expected = (1, (("a", "ok"),), "q", (), None, None, ())
        self.assertEqual(told(story), expected)
        events[0] = "begin 2"
        events.append("mark")
        self.refused(chain, events, 2)
        self.assertEqual(told(story), expected)
        self.assertEqual(told(play(chain, ["begin 0", "answer ok", "newer 1"])), expected)

    def test_stories_are_not_iterable(self):
        story = play(Chain(EDITIONS), ["begin 0"])
        self.assertRaises(TypeError, iter, story)
        self.assertRaises(TypeError, list, story)
        with self.assertRaises(TypeError):
            0 in story

    def test_a_long_work(self):
        chain = Chain([edition_of("a ask x y a n b; b end")], ["x"])
        story = self.play(chain, "begin 0, " + ", ".join(["answer y"] * 150) + ", answer n")
        self.assertEqual((story.log, story.place), ((("x", "y"),) * 150 + (("x", "n"),), "b"))


class WrongValues(Checked):
    def test_any_value_for_the_events(self):
        chain = Chain(EDITIONS)
        right = 0
        for value in any_values():
            if isinstance(value, (list, tuple)) and value and value[0].__class__ is str and value[0] == "begin 0":
                right += len(value) == 1
                self.assertEqual(referred(chain, value), told(play(chain, value)) if len(value) == 1 else 1)
            else:
                self.refused(chain, value, 0)
        self.assertEqual(right, 2)

    def test_no_sequence_or_no_event(self):
        for value in (None, 0, True, "", "begin 0", (), [], Chain(EDITIONS), {"begin 0": 1}, {"begin 0"}, object()):
            self.refused(Chain(EDITIONS), value, 0)

    def test_any_value_for_an_event(self):
        chain = Chain([edition_of("g mark m b b; b ask a a c; c end"), edition_of("a ask k y a", "m")])
        for value in any_values():
            self.refused(chain, [value], 0)
            for events in ("begin 0", "begin 0, mark", "begin 0, mark, answer a", "begin 0, mark, newer 1",
                           "begin 0, mark, answer a"):
                if value.__class__ is str and value == "mark" and events == "begin 0":
                    self.assertEqual(play(chain, ["begin 0", value]).place, "b")
                else:
                    self.stops(chain, events, value)

    def test_the_first_one_of_several(self):
        chain = Chain(EDITIONS)
        self.refused(chain, ["begin 0", "answer ok", "mark", None, "answer z"], 2)
        self.refused(chain, ["begin 0", None, "begin 0"], 1)
        self.refused(chain, [None, "begin 9"], 0)
        self.refused(chain, ["begin 0", "answer ok", ["answer ok"], "answer ok"], 2)
        self.refused(chain, ["begin 0", "answer ok", ("answer", "ok")], 2)


class Compared(Checked):
    """What the program tells is what the document's words tell when they are followed event by event."""

    EVENTS = ["begin 0", "begin 1", "begin 2", "mark", "answer y", "answer n", "answer k", "newer 0", "newer 1",
              "newer 2", "newer 3", "newer 01", "answer", None]

    def same(self, chain, events, met):
        """Whether these events can happen, when both tell the same; the faults that are met are counted."""
        expected = referred(chain, events)
        if isinstance(expected, int):
            with self.assertRaises(InvalidEvent) as caught:
                play(chain, events)
            self.assertEqual(caught.exception.at, expected)
            return False
        story = play(chain, events)
        self.assertEqual(told(story), expected)
        for fault in story.faults:
            met[fault] = met.get(fault, 0) + 1
        return True

    def test_many_works(self):
        chance = chances(2)
        met = {}
        for _ in range(150):
            chain = some_chain(chance)
            for _ in range(3):
                events = []
                can = [[event] for event in self.EVENTS if self.same(chain, [event], met)]
                while can and len(events) < 9:
                    # Most faults are met when a newer one takes over.
                    newer = [tried for tried in can if tried[-1].startswith("newer")]
                    events = chance.choice(newer if newer and len(events) > 2 else can)
                    can = [[*events, event] for event in self.EVENTS if self.same(chain, [*events, event], met)]
        self.assertEqual(sorted(met), ["never", "otherwise", "stuck", "twice"])
        self.assertGreater(min(met.values()), 20)
