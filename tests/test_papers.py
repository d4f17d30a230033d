"""[17]: papers, and which values are right ones; with [1] to [3]."""

import unittest

from elderlogs.chains import Chain
from elderlogs.deciding import faults
from elderlogs.editions import Edition
from elderlogs.errors import InvalidFault, LogError
from elderlogs.papers import paper, paper_holds
from tests.all_works import FAULTS, AllWorks
from tests.reference import chances, some_chain
from tests.values import E0, E1, E2, any_values, edition_of, nested

EDITIONS = [Edition.read(E0), Edition.read(E1), Edition.read(E2)]

# An elder edition, and a newer one that asks z of works that have the mark; x is due.
PAIR = Chain([edition_of("a ask x y b; b ask k y e; e end"),
              edition_of("a ask x y g; g mark m c b; c ask z y n; n note w b; b ask k y e; e end")], ["x"])

# A right paper for PAIR, by hand: each configuration that comes about, with a name.
RIGHT = {
    "0": (0, (("a", (), None), ("a", (), None)), ()),
    "0x": (0, (("b", (), None), ("g", (), None)), ("x",)),
    "0xk": (0, (("e", (), None), ("e", (("m", False),), None)), ("x",)),
    "1": (1, (("a", (), None),), ()),
    "1x": (1, (("g", (), None),), ("x",)),
    "1xm": (1, (("c", (("m", True),), None),), ("x",)),
    "1xmz": (1, (("b", (("m", True),), "w"),), ("x",)),
    "1xmzk": (1, (("e", (("m", True),), "w"),), ("x",)),
}

# What is right by its form, but does not come about; nothing behind it is lacking in RIGHT.
OVER = {
    "end": (1, (("e", (), None),), ("x",)),
    "word": (1, (("e", (("m", False),), "w"),), ("x",)),
    "over": (0, (("e", (), None), None), ("x",)),
}


def paper_of(*left_out, **put_in):
    """RIGHT without some configurations, and with others in their place or behind them."""
    return tuple({name: part for name, part in {**RIGHT, **put_in}.items() if name not in left_out}.values())


class Checked(unittest.TestCase):
    def holds(self, chain, fault, value, right=True):
        with self.subTest(chain=str(chain), fault=fault, value=value):
            self.assertIs(paper_holds(chain, fault, value), right)

    def no_fault(self, call, *arguments):
        with self.assertRaises(InvalidFault) as caught:
            call(*arguments)
        self.assertIs(caught.exception.__class__, InvalidFault)
        self.assertIsInstance(caught.exception, LogError)


class Papers(Checked):
    def test_the_example(self):
        e0, e1, e2 = EDITIONS
        told = paper(Chain([e0, e1]), "stuck")
        self.assertEqual((paper_holds(Chain([e0, e1]), "stuck", told), paper_holds(Chain([e0, e1]), "stuck", ()),
                          paper(Chain([e0, e1, e2]), "stuck")), (True, False, None))

    def test_a_paper_by_hand(self):
        for fault in FAULTS:
            self.holds(PAIR, fault, paper_of())
            self.holds(PAIR, fault, tuple(reversed(paper_of())))
            self.holds(PAIR, fault, paper_of() + paper_of()[2:5])
            self.assertTrue(set(paper(PAIR, fault)) >= set(paper_of()))

    def test_there_is_one_just_if_the_fault_does_not_happen(self):
        for chain in (PAIR, Chain(EDITIONS), Chain(EDITIONS, ["d"]), Chain(EDITIONS[:2], ["a"]), Chain([EDITIONS[1]])):
            for fault in FAULTS:
                told = paper(chain, fault)
                self.assertEqual(told is None, fault in faults(chain))
                if told is not None:
                    self.assertIs(told.__class__, tuple)
                    self.assertTrue(AllWorks(chain).is_right(fault, told))
                    self.holds(chain, fault, told)
                self.assertEqual(paper(fault=fault, chain=chain), told)

    def test_each_configuration_that_comes_about_has_to_be_there(self):
        for name in RIGHT:
            for fault in FAULTS:
                self.holds(PAIR, fault, paper_of(name), False)
        self.holds(PAIR, "stuck", (), False)
        self.holds(PAIR, "stuck", (RIGHT["0"],), False)

    def test_others_may_be_there(self):
        for name, part in OVER.items():
            self.holds(PAIR, "stuck", paper_of(**{name: part}))
        self.holds(PAIR, "stuck", paper_of(**OVER))

    def test_and_what_is_behind_them(self):
        # At b it asks k; behind the answer it stands at e with the same ways and word.
        over = (1, (("b", (), None),), ("x",))
        self.holds(PAIR, "stuck", paper_of(over=over), False)
        self.holds(PAIR, "stuck", paper_of(over=over, end=OVER["end"]))
        self.holds(PAIR, "stuck", paper_of(over=over, word=OVER["word"]), False)

    def test_a_fault_at_what_does_not_come_about(self):
        end = (1, (("e", (), None),), ())
        self.holds(PAIR, "never", paper_of(end=end), False)
        self.holds(PAIR, "stuck", paper_of(end=end))
        self.holds(PAIR, "twice", paper_of(end=end))
        again = (1, (("a", (), "w"),), ("x",))
        behind = {"gate": (1, (("g", (), "w"),), ("x",)), "ask": (1, (("c", (("m", True),), "w"),), ("x",))}
        self.holds(PAIR, "twice", paper_of(again=again, **behind), False)
        self.holds(PAIR, "stuck", paper_of(again=again, **behind))
        self.holds(PAIR, "never", paper_of(again=again, **behind))
        self.holds(PAIR, "never", paper_of(again=again, gate=behind["gate"]), False)
        stuck = (1, (None,), ("x",))
        self.holds(PAIR, "stuck", paper_of(stuck=stuck), False)
        for fault in ("never", "otherwise", "twice"):
            self.holds(PAIR, fault, paper_of(stuck=stuck))

    def test_a_fault_by_an_event_at_what_does_not_come_about(self):
        # Where the newer one takes over it stands at an end, with another word.
        over = (0, (("b", (), None), ("e", (("m", False),), "w")), ("x",))
        behind = {"end": (0, (("e", (), None), None), ("x",)), "word": OVER["word"]}
        self.holds(PAIR, "otherwise", paper_of(over=over, **behind), False)
        self.holds(PAIR, "stuck", paper_of(over=over, **behind))
        over = (0, (("b", (), None), ("g", (), "w")), ("x",))
        behind = {"end": (0, (("e", (), None), ("e", (("m", False),), "w")), ("x",)),
                  "gate": (1, (("g", (), "w"),), ("x",)), "ask": (1, (("c", (("m", True),), "w"),), ("x",))}
        self.holds(PAIR, "otherwise", paper_of(over=over, **behind))
        self.holds(PAIR, "stuck", paper_of(over=over, **behind))

    def test_where_the_live_one_is_stuck_only_a_later_one_takes_over(self):
        chain = Chain([edition_of("a ask x y a"), edition_of("b end"), edition_of("a ask x y a")])
        told = paper(chain, "never")
        self.assertIn((1, (None, ("a", (), None)), ()), told)
        for part in told:
            self.holds(chain, "never", tuple([other for other in told if other != part]), False)
        self.assertEqual(len(told), 5)

    def test_a_paper_for_one_fault_for_another_one(self):
        chain = Chain([edition_of("a ask x y b; b ask x y a")], ["x"])
        told = paper(chain, "stuck")
        self.assertEqual(set(told), set(paper(chain, "never")))
        self.assertEqual(set(told), set(paper(chain, "otherwise")))
        for fault in FAULTS:
            self.holds(chain, fault, told, fault != "twice")

    def test_the_faults_of_the_first_event(self):
        chain = Chain([edition_of("a end")], ["x"])
        told = ((0, (("a", (), None),), ()),)
        for fault in FAULTS:
            self.holds(chain, fault, told, fault != "never")
            self.assertEqual(paper(chain, fault), None if fault == "never" else told)


class Forms(Checked):
    def wrong(self, name, part, fault="stuck"):
        """With this in the place of a configuration, or behind all, it is no right paper."""
        self.holds(PAIR, fault, paper_of(**{name: part}), False)
        self.holds(PAIR, fault, (*paper_of(), part), False)
        self.holds(PAIR, fault, (part, *paper_of()), False)

    def test_one_thing_otherwise(self):
        ways = (("m", True),)
        for part in (
            (0, (("g", (), None),), ("x",)), (2, (("g", (), None),), ("x",)), (2, (), ("x",)),
            (-1, (("g", (), None),), ("x",)), (-1, (("e", (), None),) * 3, ("x",)),
            (-2, (("e", (), None),) * 4, ("x",)), (2, (), ("x",)), (1, (("e", (), None),) * 2, ("x",)),
            (True, (("a", (), None),), ()), ("1", (("a", (), None),), ()),
            (None, (("a", (), None),), ()), (0, (("a", (), None),), ()),
            (1, (("a", (), None), ("a", (), None)), ()), (1, (), ()), (1, ("a", (), None), ()),
            (1, [("a", (), None)], ()), (1, (["a", (), None],), ()), (1, (("c", [("m", True)], None),), ("x",)),
            (1, (("c", (["m", True],), None),), ("x",)), (1, (("a", (), None),), []),
            (1, (("c", (("m", 1),), None),), ("x",)), (1, (("e", (("m", 0),), None),), ("x",)),
            (1, (("c", (("m", None),), None),), ("x",)), (1, (("c", ("m", True), None),), ("x",)),
            (1, (("c", (("m", True, True),), None),), ("x",)), (1, (("c", (("m",),), None),), ("x",)),
            (1, (("c", ((),), None),), ("x",)), (1, (("a", (), False),), ()), (1, (("a", (), ""),), ()),
            (1, (("e", (), "v"),), ("x",)), (0, (("e", (), "w"), ("e", ways, "w")), ("x",)),
            (1, (("z", (), None),), ()), (1, ((None, (), None),), ()),
            (0, (("c", (), None), ("c", ways, None)), ("x",)),
            (1, (("n", ways, None),), ("x",)), (1, (("g", ways, None),), ("x",)),
            (1, (("g", (("m", False),), None),), ("x",)), (1, (("e", (("n", True),), None),), ("x",)),
            (1, (("e", (("m", True), ("n", True)), None),), ("x",)),
            (1, (("e", (("m", True), ("m", True)), None),), ("x",)),
            (1, (("e", (("m", False), ("m", True)), None),), ("x",)),
            (0, (("e", ways, None), ("e", ways, "w")), ("x",)), (1, (("e", (), None),), ("k",)),
            (1, (("e", (), None),), ("k", "x")), (1, (("e", (), None),), ("x", "x")), (1, (("e", (), None),), "x"),
            (1, (("e", (), None),), None), (1, (("e", (), None),), (("x",),)), (1, (("e", (), None),), (1,)),
            (1, (("e", (), None),), (None,)), (1, (("a", (), None),)), (1, (("a", (), None),), (), ()), (),
            (1, (("a", ()),), ()), (1, (("a", (), None, None),), ()), (1, ((),), ()), (1, ("abc",), ()),
            (1, (False,), ()),
        ):
            self.wrong("1x", part)

    def test_what_is_otherwise_in_the_place_of_what_comes_about(self):
        for name, part in {
            "1xmz": (1, (("b", (("m", True),), None),), ("x",)), "1xm": (1, (("c", (), None),), ("x",)),
            "1xmzk": (1, (("e", (("m", False),), "w"),), ("x",)), "1x": (1, (("g", (), None),), ()),
            "0xk": (0, (("e", (), None), ("e", (), None)), ("x",)), "0x": (0, (("b", (), None), None), ("x",)),
            "0": (0, (("a", (), None), ("e", (), None)), ()),
        }.items():
            self.holds(PAIR, "stuck", paper_of(**{name: part}), False)

    def test_ways_and_due_names_are_ascending(self):
        chain = Chain([edition_of("g mark n h h; h mark m e e; e end")], ["a", "b"])
        told = paper(chain, "stuck")
        self.holds(chain, "stuck", told)
        for ways, right in (((("m", True), ("n", True)), True), ((("n", True), ("m", True)), False),
                            ((("m", False), ("n", True)), True), ((("n", True),), True), ((), True),
                            ((("m", True), ("m", False), ("n", True)), False), ((("n", True), ("n", True)), False)):
            self.holds(chain, "stuck", (*told, (0, (("e", ways, None),), ())), right)
        for asked, right in ((("a", "b"), True), (("b", "a"), False), (("a",), True), (("b",), True),
                             (("b", "b"), False), (("a", "b", "b"), False), (("a", "b", "c"), False), (("c",), False),
                             ((), True)):
            self.holds(chain, "stuck", (*told, (0, (("e", (), None),), asked)), right)

    def test_at_a_gate_whose_mark_is_not_decided(self):
        chain = Chain([edition_of("g mark n h h; h mark m e e; e end")])
        told = paper(chain, "stuck")
        behind = ((0, (("e", (("m", True),), None),), ()), (0, (("h", (), None),), ()))
        self.holds(chain, "stuck", (*told, *behind))
        self.holds(chain, "stuck", (*told, (0, (("h", (), None),), ())), False)
        self.holds(chain, "stuck", (*told, *behind, (0, (("h", (("m", True),), None),), ())), False)
        both = (0, (("e", (("m", True), ("n", False)), None),), ())
        self.holds(chain, "stuck", (*told, both, (0, (("h", (("n", False),), None),), ())))
        self.holds(chain, "stuck", (*told, both, (0, (("h", (("n", 0),), None),), ())), False)

    def test_stands_of_each_edition(self):
        chain = Chain([edition_of("a note v b; b ask x y b"), edition_of("a note w b; b ask x y b; c end")])
        told = paper(chain, "stuck")
        self.holds(chain, "stuck", told)
        for one, other, right in ((("b", (), "v"), ("c", (), "w"), False), (("b", (), "v"), ("b", (), None), True),
                                  (("b", (), "w"), ("b", (), "w"), False), (("b", (), "v"), ("b", (), "v"), False),
                                  (("b", (), None), ("b", (), "w"), True), (("c", (), "v"), ("b", (), "w"), False),
                                  (("a", (), None), ("b", (), "w"), False)):
            over = ((0, (one, other), ()), (1, (other,), ()))
            self.holds(chain, "stuck", (*told, *over), right)


class WrongValues(Checked):
    def test_any_value(self):
        for value in any_values():
            for fault in FAULTS:
                self.assertIs(paper_holds(PAIR, fault, value), False)
                self.assertIs(paper_holds(chain=PAIR, value=[value], fault=fault), False)
                self.assertIs(paper_holds(PAIR, fault, (*paper_of(), value)), False)

    def test_any_value_in_the_place_of_each_part(self):
        chain = Chain([edition_of("g mark m e e; e note w f; f end")], ["x"])
        ahead = (0, (("g", (), None),), ())
        behind = (0, (("f", (("m", True),), "w"),), ())
        self.holds(chain, "stuck", (ahead, behind))
        self.holds(chain, "stuck", (ahead, behind, (0, (("f", (("m", False),), None),), ("x",))))
        for value in any_values():
            for part, same in (
                (value, ()), ((value, (("f", (), None),), ()), 0), ((0, value, ()), ()), ((0, (value,), ()), ()),
                ((0, ((value, (), None),), ()), ()), ((0, (("f", value, None),), ()), ()),
                ((0, (("f", (value,), None),), ()), ("m",)), ((0, (("f", ((value, True),), None),), ()), "m"),
                ((0, (("f", (("m", value),), None),), ()), True), ((0, (("f", (), value),), ()), None),
                ((0, (("f", (), None),), value), ()), ((0, (("f", (), None),), (value,)), "x"),
            ):
                right = AllWorks(chain).is_right("stuck", (ahead, behind, part))
                self.holds(chain, "stuck", (ahead, behind, part), right)
                if value.__class__ is not same.__class__ and value is not None:
                    self.assertIs(right, False)

    def test_lists_are_of_another_form(self):
        self.holds(PAIR, "stuck", list(paper_of()), False)
        for at, part in enumerate(paper_of()):
            self.holds(PAIR, "stuck", (*paper_of()[:at], list(part), *paper_of()[at + 1:]), False)

    def test_deep_values(self):
        for kind in (list, tuple):
            for depth in range(1, 9):
                for thing in (0, None, "a", PAIR):
                    self.holds(PAIR, "stuck", nested(thing, depth, kind), False)

    def test_any_value_for_the_fault(self):
        for value in any_values():
            self.no_fault(paper, PAIR, value)
            self.no_fault(paper_holds, PAIR, value, paper_of())
            self.no_fault(paper_holds, PAIR, value, None)
        self.no_fault(paper_holds, PAIR, "Stuck", ())


class Kinds(Checked):
    def test_nothing_is_changed(self):
        told = list(paper_of())
        text = str(PAIR)
        self.holds(PAIR, "stuck", tuple(told))
        paper(PAIR, "stuck")
        self.assertEqual((str(PAIR), told), (text, list(paper_of())))

    def test_the_same_call_again(self):
        first = paper(PAIR, "stuck")
        paper(Chain(EDITIONS), "never")
        self.assertEqual(paper(PAIR, "stuck"), first)


class Compared(Checked):
    """What holds is what the document's words tell when they are followed for each configuration of a paper."""

    def others(self, chance, works, told):
        """Papers that are much like one that is right."""
        told = list(told)
        parts = sorted(works.works, key=repr)
        at = chance.randrange(len(told))
        yield [*told[:at], *told[at + 1:]]
        yield [*told, told[at]]
        yield chance.sample(told, len(told))
        for _ in range(6):
            part = self.changed(chance, works, chance.choice(parts))
            yield [*told, part]
            yield [*told[:at], part, *told[at + 1:]]
            # Often right: all that is behind it is put in, too.
            closed = [part]
            for one in closed:
                if works.is_formed(one) and len(closed) < 40:
                    closed += [then for then in works.behind(one) if then not in closed]
            yield [*told, *closed]

    def changed(self, chance, works, part):
        """A configuration with one thing otherwise."""
        live, stands, asked = part
        at = chance.randrange(len(stands))
        place, ways, word = stands[at] or ("a", (), None)
        marks = chance.sample([("m", True), ("m", False), ("n", True), ("x", False)], chance.choice([0, 1, 1, 2]))
        stand = chance.choice([None, (chance.choice("abcdef"), ways, word), (place, tuple(marks), word),
                               (place, ways, chance.choice(["v", "w", None])), (place, ways)])
        changed = (*stands[:at], stand, *stands[at + 1:])
        return chance.choice([
            (live, changed, asked), (live, changed, asked), (live, changed, asked), (live, changed, asked),
            (live, stands, tuple(chance.sample("xyz", chance.choice([0, 1, 2])))),
            (chance.choice([0, 1, 2]), stands, asked), (live, (*stands, None), asked), (live, stands[1:], asked),
        ])

    def test_many_papers(self):
        chance = chances(4)
        found = {}
        for _ in range(80):
            chain = some_chain(chance)
            works = AllWorks(chain)
            for fault in FAULTS:
                told = paper(chain, fault)
                if told is None:
                    self.assertIs(paper_holds(chain, fault, tuple(works.works)), False)
                    continue
                self.assertTrue(works.is_right(fault, told))
                for other in self.others(chance, works, told):
                    right = works.is_right(fault, tuple(other))
                    found[right] = found.get(right, 0) + 1
                    self.assertIs(paper_holds(chain, fault, tuple(other)), right)
        self.assertGreater(min(found[True], found[False]), 500)
