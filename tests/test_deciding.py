"""[15] and [16]: which faults happen, shortest stories, and where editions come; with [1] to [3] and the overview."""

import itertools
import unittest

from elderlogs.chains import Chain
from elderlogs.deciding import comes, faults, happens, story
from elderlogs.editions import Edition
from elderlogs.errors import InvalidFault, LogError, NoEdition, NoPlace
from elderlogs.works import play
from tests.all_works import FAULTS, AllWorks
from tests.reference import chances, some_chain
from tests.values import E0, E1, E2, any_values, chain_of, edition_of

EDITIONS = [Edition.read(E0), Edition.read(E1), Edition.read(E2)]


class Checked(unittest.TestCase):
    def happening(self, chain, words):
        """Just these faults happen; what else is told of them belongs together."""
        with self.subTest(chain=str(chain)):
            self.assertEqual(faults(chain), tuple(words.split()))
            self.assertEqual(faults(chain=chain), tuple(words.split()))
            for fault in FAULTS:
                self.assertIs(happens(chain, fault), fault in words.split())
                self.told(chain, fault, fault in words.split())

    def told(self, chain, fault, met):
        """There is a story, whose last event alone leads to the fault, just if it is met."""
        events = story(chain, fault)
        self.assertEqual(events is not None, met)
        if met:
            self.assertIs(events.__class__, tuple)
            self.assertIn(fault, play(chain, events).faults)
            if len(events) > 1:
                self.assertNotIn(fault, play(chain, events[:-1]).faults)
            self.assertEqual(story(fault=fault, chain=chain), events)

    def shortest(self, chain, fault, events):
        """This is the only story with the fewest events."""
        self.assertEqual(story(chain, fault), tuple(events.split(", ")))
        self.told(chain, fault, True)

    def no_fault(self, call, *arguments):
        with self.assertRaises(InvalidFault) as caught:
            call(*arguments)
        self.assertIs(caught.exception.__class__, InvalidFault)
        self.assertIsInstance(caught.exception, LogError)


class Overview(Checked):
    def test_each_two_go_together(self):
        e0, e1, e2 = EDITIONS
        self.assertEqual((faults(Chain([e0, e1])), faults(Chain([e1, e2])), faults(Chain([e0, e2])),
                          faults(Chain([e0, e1, e2]))), ((), (), (), ('stuck',)))
        for editions in ([e0, e1], [e1, e2], [e0, e2], [e0], [e1], [e2]):
            self.happening(Chain(editions), "")
        self.happening(Chain(EDITIONS), "stuck")

    def test_the_story(self):
        self.assertEqual(story(Chain(EDITIONS), "stuck"),
                         ('begin 0', 'answer ok', 'answer ok', 'newer 1', 'mark', 'newer 2'))
        self.told(Chain(EDITIONS), "stuck", True)

    def test_with_names_that_are_due(self):
        self.happening(Chain(EDITIONS, ["d"]), "never stuck")
        self.happening(Chain(EDITIONS[:1], ["d", "a"]), "")
        self.shortest(Chain([EDITIONS[0], EDITIONS[2]], ["d"]), "never",
                      "begin 1, answer ok, mark, answer ok")


class Stuck(Checked):
    def test_one_edition_is_never_stuck(self):
        for rows in ("a end", "a ask x y a n b; b end", "g mark m h h; h mark m a a; a ask x y g", "a note w b; b end"):
            self.happening(chain_of(rows), "")

    def test_another_answer(self):
        self.happening(chain_of("a ask x y b n b; b ask z y e; e end", "a ask x y b; b ask z y e; e end"), "stuck")
        # At its end nothing takes over from the elder one.
        self.happening(chain_of("a ask x y b n b; b end", "a ask x y b; b end"), "")
        self.shortest(chain_of("a ask x y b n a; b end", "a ask x y b; b end"), "stuck",
                      "begin 0, answer n, newer 1")
        self.happening(chain_of("a ask x y b; b end", "a ask x y b n b; b end"), "")
        self.happening(chain_of("a ask x y b n b; b end", "c ask x n d y d; d end"), "")

    def test_another_name(self):
        self.happening(chain_of("a ask x y b; b end", "a ask z y b; b end"), "")
        self.happening(chain_of("a ask x y b; b ask x y b", "a ask z y b; b end"), "stuck")
        self.shortest(chain_of("a ask x y b; b ask x y b", "a ask z y b; b end"), "stuck",
                      "begin 0, answer y, newer 1")

    def test_at_an_end_too_early(self):
        self.happening(chain_of("a ask x y b; b ask x y c; c ask x y d; d end", "a ask x y b; b end"), "stuck")
        self.shortest(chain_of("a ask x y b; b ask x y c; c ask x y d; d end", "a ask x y b; b end"), "stuck",
                      "begin 0, answer y, answer y, newer 1")
        # Where the elder one is at its end nothing takes over any more.
        self.happening(chain_of("a ask x y b; b ask x y c; c end", "a ask x y b; b end"), "")

    def test_marks_that_are_unknown(self):
        elder = "g mark m b b; b ask x y c; c end"
        self.happening(chain_of(elder, "b ask x y c; c end"), "stuck")
        self.shortest(chain_of(elder, "b ask x y c; c end"), "stuck", "begin 0, mark, newer 1")
        self.happening(chain_of(elder, ("b ask x y c; c end", "m")), "")
        self.happening(chain_of(elder, ("b ask x y c; c end", "n")), "stuck")
        self.happening(chain_of(elder, "b ask x y c; c end", ("b ask x y c; c end", "m")), "stuck")

    def test_marks_at_another_place(self):
        elder = "a ask x y g; g mark m b b; b ask x y c; c end"
        self.happening(chain_of(elder, "g mark m a a; a ask x y b; b ask x y c; c end"), "stuck")
        self.happening(chain_of(elder, "a ask x y h; h ask x y g; g mark m b b; b ask x y c; c end"), "stuck")
        self.happening(chain_of(elder, "b ask x y d; d mark m g g; g ask x y c; c end"), "")

    def test_works_may_be_long(self):
        rounds = "a ask x y b n z; b ask x y c n z; c ask x y d n z; d ask x y e n z; e ask x y f n z"
        elder = rounds + "; f ask x y a n a; z end"
        newer = rounds + "; f ask x y a; z end"
        self.shortest(chain_of(elder, newer), "stuck", "begin 0, " + "answer y, " * 5 + "answer n, newer 1")
        self.happening(chain_of(elder, elder), "")

    def test_what_a_newer_one_wrote_for_an_elder_one(self):
        # Only what the second one put behind a log of the first one makes the third one stuck.
        one = "a ask x y b; b ask z y c; c end"
        two = "a ask x y b; b mark m d e; d ask k y e; e ask z y c; c end"
        three = "a ask x y b; b mark m d e; d ask k y f; e ask z y c; f end; c end"
        self.happening(chain_of(one, two), "")
        self.happening(chain_of(one, three), "")
        self.happening(chain_of(two, three), "")
        self.happening(chain_of(one, two, three), "")
        self.happening(chain_of(one, two, three.replace("k y f", "u y f")), "stuck")


class Twice(Checked):
    def test_in_one_edition(self):
        self.happening(chain_of("a ask x y b; b ask x y c; c end", due="x"), "twice")
        self.shortest(chain_of("a ask x y b; b ask x y c; c end", due="x"), "twice", "begin 0, answer y")
        self.happening(chain_of("a ask x y b; b ask x y c; c end"), "")
        self.happening(chain_of("a ask x y b; b ask z y c; c end", due="x"), "")
        self.happening(chain_of("a ask x y b; b ask z y a; c end", due="x"), "twice")
        self.shortest(chain_of("a ask x y b; b ask z y a; c end", due="x"), "twice", "begin 0, answer y, answer y")

    def test_behind_the_other_way(self):
        rows = "a ask x y g; g mark m b c; b ask z y e; c ask x y e; e end"
        # An edition alone goes the newer way at each gate.
        self.happening(chain_of(rows, due="x"), "")
        # The elder way is decided by what an elder edition asked.
        self.happening(chain_of("a ask x y b; b ask x k b", rows, due="x"), "stuck twice")

    def test_by_a_newer_edition_alone(self):
        one, two = "a ask x y b; b ask z y e; e end", "g mark m b a; a ask x y c; c ask x y e; b ask x y e; e end"
        self.happening(chain_of(one, due="x"), "")
        self.happening(chain_of(two, due="x"), "")
        self.happening(chain_of(one, two, due="x"), "twice")
        self.shortest(chain_of(one, two, due="x"), "twice", "begin 0, answer y, newer 1")
        self.happening(chain_of(one, two, due="z"), "never")
        self.happening(chain_of(one, two), "")

    def test_of_two_due_names(self):
        rows = "a ask x y b; b ask z y c; c ask k y d; d ask z y e; e end"
        self.happening(chain_of(rows, due="x z"), "twice")
        self.shortest(chain_of(rows, due="x z"), "twice", "begin 0, answer y, answer y, answer y")
        self.happening(chain_of(rows, due="k x"), "")


class Never(Checked):
    def test_as_a_work_is_begun(self):
        self.happening(chain_of("a end", due="x"), "never")
        self.shortest(chain_of("a end", due="x"), "never", "begin 0")
        self.shortest(chain_of("a ask x y b; b end", "a ask x y b; b end", "b end", due="x"), "never", "begin 2")
        self.happening(chain_of("a end"), "")

    def test_by_an_answer(self):
        self.happening(chain_of("a ask x y e n b; b ask z y e; e end", due="z"), "never")
        self.shortest(chain_of("a ask x y e n b; b ask z y e; e end", due="z"), "never", "begin 0, answer y")
        self.happening(chain_of("a ask x y b n b; b ask z y e; e end", due="z"), "")
        self.happening(chain_of("a ask x y b n b; b ask z y e; e end", due="x z"), "")
        self.happening(chain_of("a ask x y b n b; b ask z y e; e end", due="k z"), "never")

    def test_where_there_is_no_end(self):
        self.happening(chain_of("a ask x y a n b; b ask k y a", due="z"), "")
        self.happening(chain_of("a ask x y a n b; b ask k y a; e end", due="z"), "")

    def test_by_taking_over(self):
        chain = chain_of("a ask x y b; b ask z y e; e end", "a ask x y e; e end", due="z")
        self.shortest(chain, "never", "begin 1, answer y")
        chain = chain_of("a ask x y b; b ask k y c; c ask z y e; e end",
                         "g mark m c a; c ask z y e; a ask x y d; d ask k y e; e end", due="z")
        self.shortest(chain, "never", "begin 0, answer y, answer y, newer 1")
        self.happening(Chain(chain.editions[1:], ["z"]), "")


class Otherwise(Checked):
    def test_only_where_a_newer_one_takes_over(self):
        self.happening(chain_of("a ask x y b; b note w c; c ask x y a"), "")
        self.happening(chain_of("a ask x y b; b note w c; c ask x y a", "a ask x y b; b note w c; c ask x y a"), "")
        self.happening(chain_of("a ask x y b; b note w c; c ask x y a", "a ask x y b; b note v c; c ask x y a"),
                       "otherwise")
        self.shortest(chain_of("a ask x y b; b note w c; c ask x y a", "a ask x y b; b note v c; c ask x y a"),
                      "otherwise", "begin 0, answer y, newer 1")

    def test_at_an_end(self):
        self.happening(chain_of("a ask x y a", "b note w e; e end"), "otherwise stuck")
        self.shortest(chain_of("a ask x y a", "b note w e; e end"), "otherwise", "begin 0, newer 1")
        self.happening(chain_of("a ask x y a", "e end"), "stuck")

    def test_not_where_one_of_them_waits_at_a_gate(self):
        self.happening(chain_of("a ask x y e; e end", "b note w g; g mark m c c; c note v a; a ask x y e; e end"), "")
        self.happening(chain_of("g mark m a a; a ask x y e; e end", "b note w g; g mark m a a; a ask x y e; e end"),
                       "otherwise")
        self.shortest(chain_of("g mark m a a; a ask x y e; e end", "b note w g; g mark m a a; a ask x y e; e end"),
                      "otherwise", "begin 0, mark, newer 1")

    def test_of_three_the_first_and_the_last_one(self):
        # The words of the one in between are seen at gates only.
        one, three = "a note v b; b ask x y b", ("a note w b; b ask x y b", "m")
        two = "g mark m b b; b ask x y g"
        self.happening(chain_of(one, ("b ask x y b", "m"), three), "otherwise")
        self.happening(chain_of(one, ("a note v b; b ask x y b", "m")), "")
        self.happening(chain_of(one, two), "otherwise")
        self.shortest(chain_of(one, two), "otherwise", "begin 0, answer y, newer 1")


class Several(Checked):
    def test_all_four(self):
        chain = chain_of("a ask x y b; b ask z y a", "a ask k y a", "a note w b; b ask x y c; c end", due="x z")
        self.happening(chain, "never otherwise stuck twice")
        self.happening(Chain(chain.editions), "otherwise stuck")

    def test_editions_that_are_alike(self):
        for size in (1, 2, 3):
            self.happening(Chain([EDITIONS[1]] * size), "")
            self.happening(Chain([edition_of("a ask x y b n a; b note w e; e end")] * size, ["x"]), "twice")

    def test_an_edition_to_which_nothing_comes(self):
        # The third one takes over at once, or it is begun by.
        self.happening(chain_of("a ask x y b; b end", "a ask x y b; b end", "z end"), "")


class Comes(Checked):
    def places(self, chain, at, places):
        """Just these places the edition comes to."""
        for row in chain[at].rows:
            with self.subTest(chain=str(chain), at=at, place=row.place):
                self.assertIs(comes(chain, at, row.place), row.place in places.split())
                self.assertIs(comes(place=row.place, at=at, chain=chain), row.place in places.split())

    def test_one_edition(self):
        self.places(chain_of("a ask x y b n c; b end; c end; d end"), 0, "a b c")
        self.places(chain_of("a end; b ask x y a"), 0, "a")
        self.places(chain_of("c ask x y c; b ask x y c; a note w b"), 0, "c")

    def test_notes_and_gates_that_it_goes_through(self):
        self.places(chain_of("a note w b; b note w c; c ask x y d; d note w e; e end; f note w e"), 0, "a b c d e")
        self.places(chain_of("g mark m a b; a note w e; b note w e; e end"), 0, "g a e")
        self.places(chain_of("g mark m a b; a ask x y h; b ask x y h; h mark m c d; c end; d end"), 0, "g a h c")
        self.places(chain_of("g mark m h e; h mark n a e; a ask x y k; k mark n l e; l note w f; f end; e end"), 0,
                    "g h a k l f")

    def test_the_elder_way(self):
        chain = chain_of("a ask x y b; b ask z y e; e end", "g mark m c d; c end; d ask x y h; h mark m i k; i end; "
                                                            "k note w l; l ask z y e; e note v f; f end")
        # It comes to the gate at first; behind an answer, only the ask counts where it stands then.
        self.places(chain, 1, "g c l e f")
        self.places(chain, 0, "a b e")

    def test_only_a_later_edition_is_ahead_of_none(self):
        chain = chain_of("a ask x y b; b end", "a ask x y b n c; b end; c ask x y c", "d end; e end")
        self.places(chain, 0, "a b")
        self.places(chain, 1, "a b c")
        self.places(chain, 2, "d")

    def test_where_it_is_only_stuck(self):
        chain = chain_of("a ask x y a", "g mark m c d; c end; d ask x y f; f ask z k f")
        # At f it stands behind one answer, and is stuck behind two; d it goes through only while it plays the log.
        self.places(chain, 1, "g c f")
        chain = chain_of("a ask x y a", "g mark m c d; c end; d ask z k f; f ask x y g")
        self.places(chain, 1, "g c")

    def test_where_it_waits(self):
        chain = chain_of("a ask x y a", "a ask x y g; g mark m c a; c end")
        self.places(chain, 1, "a g c")
        chain = chain_of("a ask x y b; b ask z y b", "a ask z y b n g; b end; g mark m c a; c end")
        self.places(chain, 1, "a b g c")
        # At k it only waits where it takes over.
        chain = chain_of("c ask x y f; f ask z y f", "g mark m e c; e end; c ask x y k; k mark n h h; h end")
        self.places(chain, 1, "g e k h")

    def test_behind_the_newer_way(self):
        self.places(chain_of("g mark m h b; h mark m c d; c note w e; d note w e; e end; b end"), 0, "g h c e")
        self.places(chain_of("a ask x y g; g mark m h b; h mark m c d; c note w k; d note w k; k mark n l b; l end; "
                             "b end"), 0, "a g h c k l")

    def test_by_which_it_goes_on_when_it_is_live(self):
        # The elder one decides the gate the elder way; the newer one, live, goes that way again.
        chain = chain_of("a ask x y a n a", "g mark m c a; c ask z y c; a ask x y g n h; h mark m i k; i end; k end")
        self.places(chain, 1, "g c a h k")

    def test_numbers_of_no_edition(self):
        for size in (1, 2, 3):
            chain = Chain(EDITIONS[:size])
            for at in [*range(-5, 0), *range(size, 6), 10 ** 30, -10 ** 30]:
                for place in ("p", "z", None, 7):
                    with self.assertRaises(NoEdition) as caught:
                        comes(chain, at, place)
                    self.assertIs(caught.exception.__class__, NoEdition)
                    self.assertEqual(caught.exception.at, at)

    def test_any_value_for_the_place(self):
        chain = chain_of("b ask x y abcd; abcd end", "z note w m; m mark n z k; k end".replace("n z k", "n k k"))
        for at, places in ((0, ["b", "abcd"]), (1, ["z", "m", "k"])):
            for value in [*any_values(), "b", "k", "p"]:
                if isinstance(value, str) and value in places:
                    self.assertIs(comes(chain, at, value), True)
                    continue
                with self.assertRaises(NoPlace) as caught:
                    comes(chain, at, value)
                self.assertIs(caught.exception.__class__, NoPlace)
                self.assertIs(caught.exception.name, value)


class WrongFaults(Checked):
    def test_any_value(self):
        chain = Chain(EDITIONS)
        for value in any_values():
            self.no_fault(happens, chain, value)
            self.no_fault(story, chain, value)

    def test_what_is_much_like_a_fault(self):
        for value in ("Stuck", "stuck ", " stuck", "stuc", "stuckk", "", "none", "st", "never otherwise", "calm",
                      ["stuck"], ("stuck",), {"stuck"}, b"stuck", None, 0, 2):
            self.no_fault(happens, Chain(EDITIONS), value)
            self.no_fault(story, Chain(EDITIONS), value)


class Kinds(Checked):
    def test_the_same_call_again(self):
        chains = [Chain(EDITIONS), Chain(EDITIONS, ["d"]), Chain(EDITIONS[:2]), Chain(EDITIONS, ["d"]), Chain(EDITIONS)]
        first = [(faults(chain), story(chain, "stuck"), story(chain, "never")) for chain in chains]
        self.assertEqual([(faults(chain), story(chain, "stuck"), story(chain, "never")) for chain in chains], first)
        self.assertEqual(first[0], first[4])

    def test_nothing_is_changed(self):
        chain = Chain(EDITIONS, ["d", "a"])
        text = str(chain)
        faults(chain)
        comes(chain, 1, "t")
        for fault in FAULTS:
            happens(chain, fault)
            story(chain, fault)
        self.assertEqual((str(chain), chain.editions, chain.due), (text, tuple(EDITIONS), ("a", "d")))


class Compared(Checked):
    """What the program tells is what the document's words tell when they are followed for all works, log by log."""

    def test_many_chains(self):
        chance = chances(3)
        found = {}
        for _ in range(250):
            chain = some_chain(chance)
            works = AllWorks(chain)
            self.happening(chain, " ".join(sorted(works.met)))
            for fault, events in works.met.items():
                found[fault] = found.get(fault, 0) + 1
                self.assertEqual(len(story(chain, fault)), len(events))
            for at, row in [(at, row) for at in range(len(chain)) for row in chain[at].rows]:
                come = comes(chain, at, row.place)
                self.assertIs(come, row.place in works.places[at])
                found[come] = found.get(come, 0) + 1
        self.assertGreater(min(found.values()), 20)
        self.assertEqual(len(found), 6)

    def test_each_order_of_the_examples(self):
        for editions in itertools.permutations(EDITIONS):
            for due in ([], ["d"], ["a", "g"]):
                chain = Chain(editions, due)
                self.happening(chain, " ".join(sorted(AllWorks(chain).met)))
