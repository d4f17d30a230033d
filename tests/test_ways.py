"""[19]: where answers can lead in a further edition, and editions that are needless; with [1] to [3]."""

import unittest

from elderlogs.chains import Chain
from elderlogs.deciding import faults
from elderlogs.editions import Edition
from elderlogs.errors import InvalidFault, LogError, NoPlace
from elderlogs.rows import Ask
from elderlogs.ways import needless, safe_ways
from tests.all_works import FAULTS, AllWorks
from tests.reference import chances, some_chain, some_marked_chain
from tests.values import E0, E1, E2, any_values, chain_of

EDITIONS = [Edition.read(E0), Edition.read(E1), Edition.read(E2)]


def brute_ways(chain, place, answer, wanted):
    """The safe ways by the document's words."""
    newest = chain[len(chain) - 1]
    row = newest.row(place)
    found = []
    for then in sorted(other.place for other in newest.rows):
        ways = [(taken, then if taken == answer else led) for taken, led in row.ways]
        if not set(AllWorks(chain + newest.putting(Ask(place, row.name, ways))).met) & set(wanted):
            found.append(then)
    return tuple(found)


def brute_needless(chain, wanted):
    """The needless editions by the document's words."""
    if len(chain) == 1:
        return ()
    known = set(AllWorks(chain).met) & set(wanted)
    return tuple([at for at in range(len(chain)) if set(AllWorks(chain.without(at)).met) & set(wanted) == known])


class Checked(unittest.TestCase):
    def ways(self, chain, place, answer, wanted, places):
        words = wanted.split()
        with self.subTest(chain=str(chain), place=place, answer=answer, wanted=wanted):
            for value in (words, tuple(words), words + words, list(reversed(words))):
                found = safe_ways(chain, place, answer, value)
                self.assertIs(found.__class__, tuple)
                self.assertEqual(found, tuple(places.split()))
            self.assertEqual(safe_ways(wanted=words, answer=answer, place=place, chain=chain), tuple(places.split()))

    def needs(self, chain, wanted, *numbers):
        """All but these editions are needed."""
        words = wanted.split()
        with self.subTest(chain=str(chain), wanted=wanted):
            for value in (words, tuple(words), words + words, list(reversed(words))):
                self.assertEqual(needless(chain, value), numbers)
            self.assertEqual(needless(wanted=words, chain=chain), numbers)


class SafeWays(Checked):
    def test_one_edition(self):
        chain = chain_of("a ask x y b n c; b ask z y d; d ask k y c; c end")
        # Works that answered y may have asked z when a further edition takes over.
        self.ways(chain, "a", "y", "stuck", "b")
        # Behind n, and behind k, the work is over: nothing takes over any more.
        self.ways(chain, "a", "n", "stuck", "a b c d")
        self.ways(chain, "b", "y", "stuck", "a b c d")
        self.ways(chain, "d", "y", "stuck", "a b c d")
        self.ways(chain, "a", "y", "twice never", "a b c d")

    def test_where_it_leads_already(self):
        for chain in (Chain(EDITIONS[:2]), Chain(EDITIONS[1:]), Chain(EDITIONS[:1])):
            newest = chain[len(chain) - 1]
            for row in newest.rows:
                if isinstance(row, Ask):
                    self.assertIn(row.ways[0][1], safe_ways(chain, row.place, row.ways[0][0], FAULTS))

    def test_a_fault_that_happens_already(self):
        for row in EDITIONS[2].rows:
            if isinstance(row, Ask):
                self.ways(Chain(EDITIONS), row.place, "ok", "stuck", "")
                self.ways(Chain(EDITIONS), row.place, "ok", "stuck never", "")
                self.ways(Chain(EDITIONS), row.place, "ok", "never", "p q r s t u")
                self.ways(Chain(EDITIONS), row.place, "ok", "", "p q r s t u")

    def test_each_fault(self):
        chain = chain_of("a ask x y b; b ask z y e; e end", due="x")
        self.ways(chain, "b", "y", "stuck", "a b e")
        self.ways(chain, "b", "y", "twice", "b e")
        self.ways(chain, "b", "y", "never", "a b e")
        self.ways(chain, "b", "y", "otherwise", "a b e")
        self.ways(chain, "b", "y", "twice stuck never otherwise", "b e")
        chain = chain_of("a ask x y b; b ask z y e; e end", due="z")
        self.ways(chain, "a", "y", "never", "a b")
        self.ways(chain, "a", "y", "never stuck", "a b")
        chain = chain_of("a ask x y b; b ask z y d; c note w b; d ask z y e; e end")
        self.ways(chain, "a", "y", "otherwise", "a b d e")
        self.ways(chain, "a", "y", "stuck", "b c d")
        self.ways(chain, "a", "y", "otherwise stuck", "b d")

    def test_notes_and_gates(self):
        chain = chain_of("a ask x y b; b ask z y k; g mark m c b; c ask u y b; h note w g; k ask v y e; e end; "
                         "d mark n e e")
        self.ways(chain, "a", "y", "stuck", "b g h")
        # Behind the gate, which the further edition goes by the elder way, it is told another word.
        self.ways(chain, "a", "y", "stuck otherwise", "b g")
        self.ways(chain, "b", "y", "stuck", "a b c d e g h k")

    def test_the_edition_itself_stays_in_the_chain(self):
        # The newest edition asks z; works that it began have it.
        chain = chain_of("a ask x y e; e end", "a ask x y b; b ask z y c; c ask k y e; e end")
        self.ways(chain, "a", "y", "stuck", "b")
        self.ways(chain, "b", "y", "stuck", "a b c e")
        self.ways(chain.without(0), "a", "y", "stuck", "b")

    def test_places_are_ascending(self):
        chain = chain_of("c ask x y zz n c; zz end; b ask x y b; aa end; a ask k y a; z end")
        self.ways(chain, "c", "y", "", "a aa b c z zz")
        self.ways(chain, "c", "y", "stuck", "a aa b c z zz")
        self.ways(chain, "b", "y", "stuck otherwise", "a aa b c z zz")


class WrongValues(Checked):
    CHAIN = chain_of("a ask x y b n c; b note w c; c mark m d e; d ask abcd abcd e; e end")

    def no_place(self, place, answer, name, wanted=("stuck",)):
        with self.assertRaises(NoPlace) as caught:
            safe_ways(self.CHAIN, place, answer, wanted)
        self.assertIs(caught.exception.__class__, NoPlace)
        self.assertIsInstance(caught.exception, KeyError)
        self.assertIs(caught.exception.name, name)

    def no_fault(self, call, *arguments):
        with self.assertRaises(InvalidFault) as caught:
            call(*arguments)
        self.assertIs(caught.exception.__class__, InvalidFault)
        self.assertIsInstance(caught.exception, LogError)

    def test_any_value_for_the_place(self):
        right = 0
        for value in any_values():
            if isinstance(value, str) and value == "a":
                right += 1
                self.assertEqual(safe_ways(self.CHAIN, value, "y", []), ("a", "b", "c", "d", "e"))
                continue
            self.no_place(value, "y", value)
            self.no_place(value, None, value)
        self.assertEqual(right, 1)

    def test_places_that_are_no_asks(self):
        for place in ("b", "c", "e", "f", "x", "y", "ask"):
            self.no_place(place, "y", place)
            self.no_place(place, place, place)

    def test_any_value_for_the_answer(self):
        right = 0
        for value in any_values():
            if isinstance(value, str) and value == "abcd":
                right += 1
                self.assertEqual(safe_ways(self.CHAIN, "d", value, ()), ("a", "b", "c", "d", "e"))
                continue
            self.no_place("d", value, value)
        self.assertEqual(right, 1)

    def test_answers_that_are_not_taken_there(self):
        for answer in ("b", "abcd", "x", "a", "yy", "Y", "y ", "", "k"):
            self.no_place("a", answer, answer)
        for answer in ("y", "n", "e", "d"):
            self.no_place("d", answer, answer)

    def test_any_value_in_what_is_wanted(self):
        for value in any_values():
            for wanted in ([value], (value,), ["stuck", value], [value, "never"]):
                self.no_fault(safe_ways, self.CHAIN, "a", "y", wanted)
                self.no_fault(safe_ways, self.CHAIN, "zz", None, wanted)
                self.no_fault(needless, self.CHAIN, wanted)

    def test_several_wrong_things_at_once(self):
        self.no_fault(safe_ways, self.CHAIN, None, None, ["stuck", "calm"])
        self.no_fault(safe_ways, self.CHAIN, "a", None, ["Stuck"])
        self.no_fault(safe_ways, self.CHAIN, "b", "y", [None])
        self.no_place(7, 8, 7)
        self.no_place("b", 8, "b", ())
        self.no_place("a", 8, 8, [])

    def test_the_error_comes_ahead_of_what_would_end_the_search(self):
        self.no_fault(needless, chain_of("a end", due="x"), ["never", "calm"])
        self.no_fault(needless, chain_of("a end"), ["calm"])
        self.no_fault(needless, Chain(EDITIONS), ["stuck", ("stuck",)])


class Needless(Checked):
    def test_a_single_edition(self):
        for wanted in ("", "stuck", "never twice"):
            self.needs(chain_of("a end", due="x"), wanted)
            self.needs(Chain([EDITIONS[1]]), wanted)

    def test_of_the_examples(self):
        self.needs(Chain(EDITIONS[:2]), "stuck", 0, 1)
        # Each two go together, and the three do not.
        self.needs(Chain(EDITIONS), "stuck")
        self.needs(Chain(EDITIONS), "stuck never")
        self.needs(Chain(EDITIONS), "never", 0, 1, 2)
        self.needs(Chain(EDITIONS), "", 0, 1, 2)

    def test_editions_that_are_alike(self):
        self.needs(Chain([EDITIONS[1]] * 3), "stuck never otherwise twice", 0, 1, 2)
        self.needs(chain_of("a ask x y b; b ask x y b", "a ask z y b; b end", "a ask z y b; b end"), "stuck", 1, 2)
        self.assertEqual(faults(chain_of("a ask x y b; b ask x y b", "a ask z y b; b end", "a ask z y b; b end")),
                         ("stuck",))

    def test_the_same_faults_are_to_happen(self):
        # Without the first one nothing is stuck any more; without the second one x is asked just once.
        chain = chain_of("a ask k y b; b ask k y b", "a ask x y b; b ask x y b", due="x")
        self.assertEqual(faults(chain), ("stuck", "twice"))
        self.needs(chain, "stuck twice")
        self.needs(chain, "twice", 0)
        self.needs(chain, "never", 0, 1)
        self.needs(chain, "otherwise never", 0, 1)

    def test_other_faults_may_happen(self):
        chain = chain_of("a ask k y b; b ask k y b", "a ask x y b; b end", due="x")
        self.assertEqual((faults(chain), faults(chain.without(0)), faults(chain.without(1))), (("stuck",), (), ()))
        self.needs(chain, "never", 0, 1)
        self.needs(chain, "stuck")


class Kinds(Checked):
    def test_nothing_is_changed(self):
        chain, wanted = Chain(EDITIONS, ["d"]), ["stuck", "never"]
        text = str(chain)
        safe_ways(chain, "p", "ok", wanted)
        needless(chain, wanted)
        self.assertEqual((str(chain), wanted, chain.editions), (text, ["stuck", "never"], tuple(EDITIONS)))


class Compared(Checked):
    """What is told of ways and editions is what the document's words tell when they are followed for all works."""

    def test_many_ways(self):
        chance = chances(6)
        sizes = {}
        for number in range(60):
            chain = some_chain(chance) if number < 30 else some_marked_chain(chance)
            wanted = chance.sample(FAULTS, chance.choice([1, 1, 2]))
            asks = [row for row in chain[len(chain) - 1].rows if isinstance(row, Ask)]
            for row in chance.sample(asks, min(2, len(asks))):
                answer = chance.choice(row.ways)[0]
                places = brute_ways(chain, row.place, answer, wanted)
                self.ways(chain, row.place, answer, " ".join(wanted), " ".join(places))
                kind = "none" if not places else "all" if len(places) == len(chain[len(chain) - 1]) else "some"
                sizes[kind] = sizes.get(kind, 0) + 1
        self.assertGreater(min(sizes["none"], sizes["all"], sizes["some"]), 10)

    def test_many_needless_editions(self):
        chance = chances(7)
        sizes = {}
        for number in range(150):
            chain = some_chain(chance) if number < 120 else some_marked_chain(chance)
            wanted = chance.sample(FAULTS, chance.choice([1, 2, 4]))
            found = brute_needless(chain, wanted)
            self.needs(chain, " ".join(wanted), *found)
            if len(chain) > 1:
                sizes[len(found)] = sizes.get(len(found), 0) + 1
        self.assertGreater(min(sizes[0], sizes[1], sizes[2], sizes[3]), 2)
