"""[18]: least sets of marks, how marks lie, and marks that can go; with [1] to [3]."""

import itertools
import unittest

from elderlogs.chains import Chain
from elderlogs.deciding import faults
from elderlogs.editions import Edition
from elderlogs.errors import InvalidFault, LogError
from elderlogs.marks import can_go, least_marks, lying
from tests.all_works import FAULTS, AllWorks
from tests.reference import chances, some_chain, some_marked_chain
from tests.values import E0, E1, E2, NAMES, any_values, chain_of, edition_of

EDITIONS = [Edition.read(E0), Edition.read(E1), Edition.read(E2)]


def without(edition, marks):
    """The edition without some marks."""
    for mark in marks:
        edition = edition.without_mark(mark)
    return edition


class Checked(unittest.TestCase):
    def least(self, chain, wanted, *sets):
        """These are the least sets, each in one text."""
        expected = tuple([tuple(part.split()) for part in sets])
        with self.subTest(chain=str(chain), wanted=wanted):
            words = wanted.split()
            for value in (words, tuple(words), words + words, list(reversed(words))):
                found = least_marks(chain, value)
                self.assertEqual(found, expected)
                self.assertEqual([part.__class__ for part in (found, *found)], [tuple] * (len(found) + 1))
            self.assertEqual(least_marks(wanted=words, chain=chain), expected)

    def lies(self, chain, mark, words):
        with self.subTest(chain=str(chain), mark=mark):
            self.assertEqual(lying(chain, mark), tuple(words.split()))
            self.assertEqual(lying(mark=mark, chain=chain), tuple(words.split()))

    def goes(self, chain, mark, right):
        with self.subTest(chain=str(chain), mark=mark):
            self.assertIs(can_go(chain, mark), right)
            self.assertIs(can_go(mark=mark, chain=chain), right)

    def test_the_example(self):
        e0, _, e2 = EDITIONS
        self.assertEqual((least_marks(Chain([e0, e2]), ["stuck"]), lying(Chain([e0, e2]), "m"),
                          can_go(Chain([e0, e2]), "m"), can_go(Chain([e2]), "m")),
                         ((('m',),), ('elder', 'newer', 'open'), False, True))


class LeastMarks(Checked):
    def test_of_the_examples(self):
        e0, e1, e2 = EDITIONS
        self.least(Chain([e0, e2]), "stuck", "m")
        # Where the first one has asked d it is at its end: n is in no elder work's way.
        self.least(Chain([e0, e1]), "stuck", "m")
        self.least(Chain([e0, e1]), "stuck twice", "m")
        # Only the elder way of m leads to n.
        self.least(Chain([e1, e2]), "stuck", "")
        self.least(Chain([e2]), "stuck", "")
        self.least(Chain([e1]), "stuck", "")
        self.least(Chain(EDITIONS), "stuck")

    def test_no_faults_are_wanted(self):
        for editions in ([EDITIONS[0]], EDITIONS[:2], EDITIONS):
            self.least(Chain(editions), "", "")
            self.least(Chain(editions, ["d"]), "", "")

    def test_no_set_does(self):
        self.least(chain_of("a ask x y b n b; b ask x y a", "a ask x y b; b ask x y a"), "stuck")
        self.least(chain_of("a ask x y a", "g mark m b b; b ask x y e; e end", due="k"), "never")
        # Without the wanted ones it is the empty one.
        self.least(chain_of("a ask x y b n b; b ask x y a", "a ask x y b; b ask x y a"), "never otherwise twice", "")

    def test_several_least_sets(self):
        # Works of the elder edition go the elder way at either gate.
        elder = "a ask x y b; b ask z y c; c ask v y e; e end"
        newer = "a ask x y g; g mark m h b; h mark n k b; k ask u y b; b ask z y c; c ask v y e; e end"
        self.least(chain_of(elder, newer), "stuck", "m", "n")
        self.least(chain_of(elder, newer.replace("mark m h", "mark n h").replace("mark n k", "mark m k")), "stuck",
                   "m", "n")
        self.least(chain_of(elder, newer), "stuck twice never otherwise", "m", "n")

    def test_shorter_ones_first_then_ascending(self):
        # The first gate leads elder works by both asks; the two others lead them by one each.
        elder = "a ask x y b; b ask z y e; e ask v y f; f end"
        newer = "a ask x y g; g mark zz h b; h mark m i k; i ask u y k; k mark n l b; l ask w y b; b ask z y e; " \
                "e ask v y f; f end"
        self.least(chain_of(elder, newer), "stuck", "zz", "m n")
        self.least(chain_of(elder, newer.replace("mark n", "mark a").replace("mark m", "mark z")), "stuck",
                   "zz", "a z")
        self.least(chain_of(elder, newer.replace("mark zz", "mark b").replace("mark m", "mark c")), "stuck",
                   "b", "c n")

    def test_all_marks_together(self):
        elder = "a ask x y b; b ask z y e; e ask v y f; f end"
        newer = "a ask x y h; h mark m i k; i ask u y k; k mark n l b; l ask w y b; b ask z y e; e ask v y f; f end"
        self.least(chain_of(elder, newer), "stuck", "m n")

    def test_more_marks_can_be_worse(self):
        # The elder way of m asks the elder works twice; without m all is well.
        elder = "a ask x y b; b ask z y c; c ask v y e; e end"
        newer = "a ask x y g; g mark m b d; d ask z y f; f ask x y c; b ask z y c; c ask v y e; e end"
        self.assertEqual(faults(chain_of(elder, newer, due="x")), ("twice",))
        self.assertEqual(faults(Chain([edition_of(elder), without(edition_of(newer), ["m"])], ["x"])), ())
        self.least(chain_of(elder, newer, due="x"), "twice", "")
        self.least(chain_of(elder, newer, due="x"), "stuck", "")
        # With n alone all is well; with m and n, m's elder way leads elsewhere; with none, or m alone, u is asked.
        newer = "a ask x y g; g mark m h d; d ask w y b; h mark n k b; k ask u y b; b ask z y c; c ask v y e; e end"
        self.least(chain_of(elder, newer), "stuck", "n")
        # One fault is kept away by the mark that brings the other one.
        newer = "a ask x y g; g mark m d b; d ask k y b; b ask z y c; c ask v y e; e end"
        self.assertEqual(faults(chain_of(elder, newer, due="k")), ("never",))
        self.assertEqual(faults(chain_of("a ask x y a", newer.replace("c ask v y e", "c ask v y c"), due="k")),
                         ("stuck",))
        longer = elder.replace("c ask v y e", "c ask v y c")
        newer = newer.replace("c ask v y e", "c ask v y e n c")
        self.least(chain_of(longer, newer, due="k"), "stuck")
        self.least(chain_of(longer, newer, due="k"), "twice", "")

    def test_of_each_fault_alone(self):
        for chain in (Chain(EDITIONS[:2], ["d"]), Chain(EDITIONS[1:], ["g"]), Chain(EDITIONS, ["b"])):
            for wanted in FAULTS:
                self.least(chain, wanted, *brute(chain, [wanted]))

    def test_other_editions_keep_their_marks(self):
        elder = "g mark m b b; b ask x y e; e end"
        self.least(chain_of(elder, elder), "stuck", "")
        self.least(chain_of(elder, "b ask x y e; e end"), "stuck")
        self.least(chain_of(elder, ("b ask x y e; e end", "m")), "stuck", "")


def brute(chain, wanted):
    """The least sets by the document's words, each as a text."""
    marks = chain[len(chain) - 1].marks
    sets = [part for size in range(4) for part in itertools.combinations(marks, size)]
    right = []
    for part in sets:
        edition = without(chain[len(chain) - 1], [mark for mark in reversed(marks) if mark not in part])
        if not set(AllWorks(chain.newest(edition)).met) & set(wanted):
            right.append(part)
    return [" ".join(part) for part in right if not [less for less in right if set(less) < set(part)]]


class Lying(Checked):
    def test_of_the_examples(self):
        e0, e1, e2 = EDITIONS
        self.lies(Chain([e0, e1]), "m", "elder newer open")
        self.lies(Chain([e0, e1]), "n", "elder newer open")
        self.lies(Chain([e1]), "m", "newer open")
        self.lies(Chain([e1]), "n", "open")
        self.lies(Chain([e1, e0]), "m", "open")
        self.lies(Chain(EDITIONS), "n", "open")

    def test_a_mark_of_no_gate(self):
        for mark in NAMES:
            self.lies(chain_of("a ask x y b; b end"), mark, "open")
            self.lies(chain_of("a ask m m b; b note m c; c end", ("a ask m m a", "m z")), mark, "open")

    def test_only_the_newest_edition_counts(self):
        gate = "g mark m a a; a ask x y b; b ask z y e; e end"
        plain = "a ask x y b; b ask z y e; e end"
        self.lies(chain_of(gate, (plain, "m")), "m", "open")
        self.lies(chain_of((plain, "m"), gate), "m", "elder newer open")
        self.lies(chain_of(gate, gate), "m", "newer open")
        self.lies(chain_of(gate), "m", "newer open")

    def test_it_need_not_be_live(self):
        # At its end the elder one is the last one; the newest one only plays its log.
        self.lies(chain_of("a ask x y e; e end", "g mark m b a; a ask x y e; e end; b ask z y b"), "m",
                  "elder newer open")
        # The gate lies behind the elder one's end; the newest one, live, waits there.
        self.lies(chain_of("a ask x y e; e end", "a ask x y g; g mark m e e; e end"), "m", "newer open")

    def test_gates_that_it_does_not_come_to(self):
        self.lies(chain_of("a ask x y a; g mark m a a"), "m", "open")
        self.lies(chain_of("a ask x y b; b end", "a ask z y g; g mark m b b; b end"), "m", "newer open")
        self.lies(chain_of("a ask x y a", "a ask x y b; b ask x n g; g mark m a a"), "m", "newer open")

    def test_stands_that_are_stuck(self):
        # Behind x it is stuck ahead of all other gates, but the elder way was decided at no stand.
        self.lies(chain_of("a ask x y a", "g mark m b b; b ask z y e; e end"), "m", "newer open")
        self.lies(chain_of("a ask x y a", "g mark m b b; b ask x y e; e end"), "m", "elder newer open")

    def test_a_gate_behind_the_elder_way_of_another_one(self):
        # What makes it go the elder way at the first gate decides the second one, too.
        chain = chain_of("d ask x y e; e end", "g mark m b h; h mark n c d; b end; c end; d ask x y e; e end")
        self.lies(chain, "n", "elder open")
        self.lies(chain, "m", "elder newer open")

    def test_gates_one_behind_the_other(self):
        chain = chain_of("a ask x y b; b ask z y b", "a ask x y g; g mark m c d; c ask u y c; d ask z y d")
        self.lies(chain, "m", "elder newer open")
        chain = chain_of("k mark m a a; a ask x y b; b ask z y b", "k mark m a g; g mark n c d; a ask x y a n g; "
                                                                   "c ask u y c; d ask x y d")
        self.lies(chain, "n", "newer open")
        self.lies(chain, "m", "newer open")


class CanGo(Checked):
    def test_of_the_examples(self):
        e0, e1, e2 = EDITIONS
        self.goes(Chain([e0, e1]), "m", False)
        self.goes(Chain([e0, e1]), "n", True)
        self.goes(Chain([e1]), "m", True)
        self.goes(Chain([e1]), "n", True)
        self.goes(Chain([e2]), "m", True)
        self.goes(Chain([e0, e2]), "m", False)
        # A fault that happens already counts as none.
        self.goes(Chain(EDITIONS), "n", True)
        self.goes(Chain(EDITIONS), "m", True)

    def test_the_edition_with_the_mark_stays_in_the_chain(self):
        chain = chain_of("c ask k y e; e end", "g mark m b c; b ask z y c; c ask k y e; e end")
        self.assertEqual(faults(chain), ())
        self.goes(chain, "m", True)
        chain = chain_of("c ask k y c", "g mark m b c; b ask z y c; c ask k y c")
        self.assertEqual(faults(chain), ())
        self.goes(chain, "m", False)
        # Works that were begun by the edition with the mark alone have it, or nothing; it needs it no more.
        self.goes(chain.without(0), "m", True)
        # Behind the same log, the newest one goes the elder way, and the one without the mark does not.
        chain = chain_of(("c ask k y c", "m"), "g mark m b c; b ask k y b; c note w d; d ask k y d")
        self.assertEqual(faults(chain), ("otherwise",))
        self.goes(chain, "m", True)

    def test_a_mark_that_it_does_not_have(self):
        for mark in ("m", "k", "zzzz"):
            self.goes(chain_of("a ask x y b; b end"), mark, True)
            self.goes(chain_of("a ask x y a", "b ask z y b"), mark, True)
        # An elder edition leaves a mark that the newest one does not know.
        chain = chain_of("a ask x y b; b end", "g mark m a a; a ask x y b; b end")
        self.goes(chain, "n", True)

    def test_each_fault_counts(self):
        gate = "g mark m b b; b ask x y e; e end"
        self.goes(chain_of(gate), "m", True)
        # Without the mark works that asked nothing are told otherwise.
        chain = chain_of("b ask x y e; e end", "g mark m c b; c note w b; b ask x y e; e end")
        self.assertEqual(faults(chain), ())
        self.goes(chain, "m", False)
        chain = chain_of("b ask x y b", "g mark m c b; c ask x y d; d end; b ask x y b", due="z")
        self.assertEqual(faults(chain), ("never",))
        self.assertEqual(faults(chain + chain[1].without_mark("m")), ("never", "stuck"))
        self.goes(chain, "m", False)
        chain = chain_of("b ask x y c; c ask z y c", "b ask x y g; g mark m d c; d ask x y c; c ask z y c", due="x")
        self.assertEqual(faults(chain), ("twice",))
        self.assertEqual(faults(chain + chain[1].without_mark("m")), ("stuck", "twice"))
        self.goes(chain, "m", False)


class WrongValues(Checked):
    def no_fault(self, chain, wanted):
        with self.assertRaises(InvalidFault) as caught:
            least_marks(chain, wanted)
        self.assertIs(caught.exception.__class__, InvalidFault)
        self.assertIsInstance(caught.exception, LogError)

    def test_any_value_in_what_is_wanted(self):
        chain = Chain(EDITIONS)
        for value in any_values():
            for wanted in ([value], (value,), ["stuck", value], [value, "never"], ["stuck", value, "twice"]):
                self.no_fault(chain, wanted)

    def test_the_error_comes_ahead_of_what_would_end_the_search(self):
        self.no_fault(chain_of("a end", due="x"), ["never", "Never"])
        self.no_fault(chain_of("a end", due="x"), ["Never", "never"])
        self.no_fault(chain_of("a end"), ["never", ["never"]])


class Kinds(Checked):
    def test_nothing_is_changed(self):
        chain, wanted = Chain(EDITIONS, ["d"]), ["stuck", "never"]
        text = str(chain)
        least_marks(chain, wanted)
        lying(chain, "m")
        can_go(chain, "m")
        self.assertEqual((str(chain), wanted, chain.editions), (text, ["stuck", "never"], tuple(EDITIONS)))


class Compared(Checked):
    """What is told of marks is what the document's words tell when they are followed for all works."""

    def test_many_chains(self):
        chance = chances(5)
        sizes, words, gone = {}, {}, {}
        for number in range(110):
            chain = some_chain(chance) if number < 40 else some_marked_chain(chance)
            works = AllWorks(chain)
            newest = chain[len(chain) - 1]
            for wanted in (["stuck"], ["twice"], chance.sample(FAULTS, 2)):
                expected = brute(chain, wanted)
                self.least(chain, " ".join(wanted), *expected)
                for part in expected or [None]:
                    size = None if part is None else len(part.split())
                    sizes[size] = sizes.get(size, 0) + 1
            for mark in ("m", "n", "x", "k"):
                ways = [dict(key[1][-1][1]).get(mark) for key in works.works if key[1][-1] is not None]
                expected = sorted({{None: "open", True: "newer", False: "elder"}[way] for way in ways})
                self.lies(chain, mark, " ".join(expected))
                words[tuple(expected)] = words.get(tuple(expected), 0) + 1
                longer = AllWorks(chain + newest.without_mark(mark))
                right = set(longer.met) <= set(works.met)
                self.goes(chain, mark, right)
                gone[right] = gone.get(right, 0) + 1
        self.assertGreater(min(sizes[None], sizes[0], sizes[1], sizes[2]), 10)
        self.assertGreater(min(gone.values()), 20)
        self.assertGreater(min(words.values()), 2)
        self.assertGreater(len(words), 2)
