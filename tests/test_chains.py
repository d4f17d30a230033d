"""[11]: chains, what is wrong with them, chains that are made of others, texts, equality; with [1] and [2]."""

import itertools
import unittest

from elderlogs.chains import Chain
from elderlogs.editions import Edition
from elderlogs.errors import InvalidChain, InvalidEdition, InvalidText, LogError, NoEdition
from elderlogs.rows import End, Row
from tests.values import E0, E1, E2, NAMES, NO_NAMES, any_values, are_drops, are_editions, edition_of

EDITIONS = [Edition.read(E0), Edition.read(E1), Edition.read(E2)]


class Checked(unittest.TestCase):
    def wrong(self, word, call, *arguments):
        with self.assertRaises(InvalidChain) as caught:
            call(*arguments)
        self.assertIs(caught.exception.__class__, InvalidChain)
        self.assertIsInstance(caught.exception, LogError)
        self.assertEqual(caught.exception.word, word)

    def no_edition(self, call, at):
        with self.assertRaises(NoEdition) as caught:
            call()
        self.assertIs(caught.exception.__class__, NoEdition)
        self.assertIsInstance(caught.exception, IndexError)
        self.assertNotIsInstance(caught.exception, LogError)
        self.assertEqual(caught.exception.at, at)


class Attributes(Checked):
    def test_editions_are_in_their_order(self):
        for size in range(1, 4):
            for editions in itertools.permutations(EDITIONS, size):
                for chain in (Chain(editions), Chain(list(editions)), Chain(editions=editions), Chain(editions, ["d"])):
                    self.assertEqual(chain.editions, editions)
                    self.assertEqual(len(chain), size)
                    self.assertIs(chain.editions.__class__, tuple)

    def test_one_edition_several_times(self):
        chain = Chain([EDITIONS[0]] * 3)
        self.assertEqual((chain.editions, len(chain)), ((EDITIONS[0],) * 3, 3))

    def test_due_names_are_ascending(self):
        for order in itertools.permutations(["pay", "fee", "ab", "a"]):
            for chain in (Chain(EDITIONS, order), Chain(EDITIONS, list(order)), Chain(due=order, editions=EDITIONS)):
                self.assertEqual(chain.due, ("a", "ab", "fee", "pay"))
                self.assertIs(chain.due.__class__, tuple)
        self.assertEqual(Chain(EDITIONS).due, ())
        self.assertEqual(Chain(EDITIONS, []).due, ())

    def test_due_names_need_not_be_asked(self):
        for name in NAMES:
            self.assertEqual(Chain([edition_of("z end")], [name]).due, (name,))

    def test_marks_are_those_of_gates_and_drops_of_all_editions(self):
        one = edition_of("a mark m b b; b mark c d d; d end", "z k")
        other = edition_of("a mark k b b; b end", "m ab")
        self.assertEqual(Chain([one]).marks, ("c", "k", "m", "z"))
        self.assertEqual(Chain([other]).marks, ("ab", "k", "m"))
        self.assertEqual(Chain([one, other]).marks, ("ab", "c", "k", "m", "z"))
        self.assertEqual(Chain([other, one, other]).marks, ("ab", "c", "k", "m", "z"))
        self.assertEqual(Chain([edition_of("a end"), edition_of("a end", "b")]).marks, ("b",))
        self.assertEqual(Chain(EDITIONS).marks, ("m", "n"))

    def test_marks_are_neither_names_nor_due(self):
        chain = Chain([edition_of("a ask x y b; b note w c; c end")], ["x", "d"])
        self.assertEqual(chain.marks, ())
        self.assertIs(chain.marks.__class__, tuple)

    def test_arguments_are_not_changed_and_later_changes_have_no_effect(self):
        editions, due = list(EDITIONS), ["pay", "fee"]
        chain = Chain(editions, due)
        self.assertEqual((editions, due), (EDITIONS, ["pay", "fee"]))
        text = str(chain)
        editions[0] = edition_of("a end", "q")
        editions.append(edition_of("a end"))
        due.append("z")
        due[0] = "k"
        self.assertEqual((chain.editions, chain.due, chain.marks), (tuple(EDITIONS), ("fee", "pay"), ("m", "n")))
        self.assertEqual((len(chain), chain[0], str(chain)), (3, EDITIONS[0], text))

    def test_chains_are_not_iterable(self):
        chain = Chain(EDITIONS)
        for call in (iter, list, tuple, set, sorted, enumerate, lambda it: [*it], lambda it: max(it),
                     lambda it: EDITIONS[0] in it, lambda it: [x for x in it]):
            self.assertRaises(TypeError, call, chain)
        with self.assertRaises(TypeError):
            one, two, three = chain
        with self.assertRaises(TypeError):
            for _ in chain:
                break


class WrongThings(Checked):
    def test_any_value_for_the_editions(self):
        right = 0
        for value in any_values():
            with self.subTest(value=value):
                if are_editions(value):
                    right += 1
                    self.assertEqual(Chain(value).editions, tuple(value))
                else:
                    self.wrong("editions", Chain, value)
        self.assertGreater(right, 3)

    def test_no_sequence_of_at_least_one_edition(self):
        edition = EDITIONS[0]
        for value in ([], (), None, edition, E0, [E0], [edition, E0], [edition, None], [None, edition], [[edition]],
                      (edition, [edition]), [End("a")], [edition, End("a")], Chain([edition]), [Chain([edition])], 0,
                      True, {0: edition}, [edition, 0]):
            with self.subTest(value=value):
                self.wrong("editions", Chain, value)

    def test_any_value_for_the_due_names(self):
        for value in any_values():
            with self.subTest(value=value):
                if are_drops(value):
                    self.assertEqual(Chain(EDITIONS, value).due, tuple(sorted(value)))
                else:
                    self.wrong("due", Chain, EDITIONS, value)

    def test_no_sequence_of_unlike_names(self):
        for value in ("a", "", "ab", None, 0, ["a", "a"], ("a", "b", "a"), ["A"], ["a", "abcde"], [""], ["a", 1],
                      [["a"]], [("a",)], [None], [True], EDITIONS[0], [EDITIONS[0]], ["a", "b\n"]):
            with self.subTest(value=value):
                self.wrong("due", Chain, EDITIONS, value)

    def test_editions_come_first(self):
        few = [None, 0, True, "a", [], (), ["a"], ["a", "a"], EDITIONS, (EDITIONS[0], 1), EDITIONS[0], [["a"]]]
        for editions, due in itertools.product(few, few):
            with self.subTest(editions=editions, due=due):
                if not are_editions(editions):
                    self.wrong("editions", Chain, editions, due)
                elif not are_drops(due):
                    self.wrong("due", Chain, editions, due)
                else:
                    self.assertEqual(Chain(editions, due).due, tuple(due))


class Index(Checked):
    def test_an_edition_by_its_number(self):
        for size in range(1, 4):
            chain = Chain(EDITIONS[:size])
            for at in range(size):
                self.assertEqual(chain[at], EDITIONS[at])

    def test_all_other_integers(self):
        for size in range(1, 4):
            chain = Chain(EDITIONS[:size], ["d"])
            for at in [*range(-5, 0), *range(size, 8), 10 ** 30, -10 ** 30]:
                with self.subTest(size=size, at=at):
                    self.no_edition(lambda: chain[at], at)
                    self.no_edition(lambda: chain.without(at), at)
                    self.no_edition(lambda: chain.without(at=at), at)


class Without(Checked):
    def test_the_chain_without_an_edition(self):
        chain = Chain(EDITIONS, ["d", "b"])
        for at in range(3):
            for less in (chain.without(at), chain.without(at=at)):
                self.assertIs(less.__class__, Chain)
                self.assertEqual(less.editions, tuple(EDITIONS[:at] + EDITIONS[at + 1:]))
                self.assertEqual((less.due, len(less)), (("b", "d"), 2))
        self.assertEqual(chain.without(0).without(1).editions, (EDITIONS[1],))
        self.assertEqual((chain.editions, chain.due), (tuple(EDITIONS), ("b", "d")))

    def test_its_marks(self):
        chain = Chain([edition_of("a end", "m n"), edition_of("a mark n b b; b end")])
        self.assertEqual((chain.without(0).marks, chain.without(1).marks), (("n",), ("m", "n")))

    def test_of_like_editions_one_goes(self):
        chain = Chain([EDITIONS[0], EDITIONS[1], EDITIONS[0]])
        self.assertEqual(chain.without(0), Chain([EDITIONS[1], EDITIONS[0]]))
        self.assertEqual(chain.without(2), Chain([EDITIONS[0], EDITIONS[1]]))

    def test_a_single_edition_has_to_stay(self):
        chain = Chain([EDITIONS[0]], ["d"])
        self.wrong("editions", chain.without, 0)
        self.no_edition(lambda: chain.without(1), 1)
        self.no_edition(lambda: chain.without(-1), -1)
        self.assertEqual(chain, Chain([EDITIONS[0]], ["d"]))


class Newest(Checked):
    def test_an_edition_in_the_place_of_the_last_one(self):
        edition = edition_of("a mark k b b; b end", "z")
        for size in range(1, 4):
            chain = Chain(EDITIONS[:size], ["d", "b"])
            for changed in (chain.newest(edition), chain.newest(edition=edition)):
                self.assertIs(changed.__class__, Chain)
                self.assertEqual(changed.editions, (*EDITIONS[:size - 1], edition))
                self.assertEqual(changed.due, ("b", "d"))
            self.assertEqual(chain, Chain(EDITIONS[:size], ["d", "b"]))
        self.assertEqual(Chain(EDITIONS).newest(edition).marks, ("k", "m", "n", "z"))
        self.assertEqual(Chain([EDITIONS[0]]).newest(edition).marks, ("k", "z"))

    def test_its_own_last_one_changes_nothing(self):
        self.assertEqual(Chain(EDITIONS, ["d"]).newest(EDITIONS[2]), Chain(EDITIONS, ["d"]))


class Plus(Checked):
    def test_a_further_edition(self):
        chain = Chain([EDITIONS[0]], ["d", "b"])
        longer = chain + EDITIONS[1]
        self.assertIs(longer.__class__, Chain)
        self.assertEqual(longer, Chain(EDITIONS[:2], ["b", "d"]))
        self.assertEqual((longer.marks, len(longer)), (("m", "n"), 2))
        self.assertEqual(chain + EDITIONS[1] + EDITIONS[2], Chain(EDITIONS, ["b", "d"]))
        self.assertEqual(chain + EDITIONS[0], Chain([EDITIONS[0]] * 2, ["b", "d"]))
        self.assertEqual(chain, Chain([EDITIONS[0]], ["d", "b"]))

    def test_in_place_it_is_a_new_chain(self):
        chain = elder = Chain([EDITIONS[0]], ["d"])
        chain += EDITIONS[1]
        self.assertIs(chain.__class__, Chain)
        self.assertEqual(chain, Chain(EDITIONS[:2], ["d"]))
        self.assertEqual((elder, len(elder), elder.marks), (Chain([EDITIONS[0]], ["d"]), 1, ()))
        self.assertIsNot(chain, elder)

    def test_anything_but_an_edition(self):
        chain = Chain([EDITIONS[0]], ["d"])
        others = [E0, [EDITIONS[1]], (EDITIONS[1],), Chain([EDITIONS[1]]), chain, End("a"), object(), Edition]
        for value in others + any_values():
            if isinstance(value, Edition):
                continue
            with self.subTest(value=value):
                with self.assertRaises(TypeError):
                    chain + value
                with self.assertRaises(TypeError):
                    chain += value
                self.assertEqual(chain, Chain([EDITIONS[0]], ["d"]))

    def test_the_chain_stands_first(self):
        for value in (EDITIONS[0], [], "a", 1, None):
            with self.assertRaises(TypeError):
                value + Chain(EDITIONS)


class Texts(unittest.TestCase):
    def test_the_text_of_a_chain(self):
        self.assertEqual(str(Chain([edition_of("a end")])), "due\nedition\ndrops\na end")
        self.assertEqual(str(Chain([edition_of("a end", "n m"), edition_of("b note w c; c end")], ["pay", "fee"])),
                         "due fee pay\nedition\ndrops m n\na end\nedition\ndrops\nb note w c\nc end")
        self.assertEqual(str(Chain(EDITIONS, ["d"])), f"due d\nedition\n{E0}\nedition\n{E1}\nedition\n{E2}")
        self.assertIs(str(Chain(EDITIONS)).__class__, str)

    def test_read(self):
        text = "due pay fee\nedition\ndrops n m\na ask x y b\nb end\nedition\ndrops\nb end"
        for chain in (Chain.read(text), Chain.read(text=text)):
            self.assertIs(chain.__class__, Chain)
            self.assertEqual(chain.editions, (edition_of("a ask x y b; b end", "m n"), edition_of("b end")))
            self.assertEqual((chain.due, chain.marks, len(chain)), (("fee", "pay"), ("m", "n"), 2))

    def test_due_names_and_drops_in_any_order(self):
        for due in itertools.permutations(["d", "ab", "zzzz"]):
            for drops in itertools.permutations(["m", "n", "k"]):
                text = f"due {' '.join(due)}\nedition\ndrops {' '.join(drops)}\na end\nedition\ndrops m\na end"
                chain = Chain.read(text)
                self.assertEqual((chain.due, chain.editions[0].drops), (("ab", "d", "zzzz"), ("k", "m", "n")))
                self.assertEqual(chain, Chain([edition_of("a end", "m n k"), edition_of("a end", "m")], due))

    def test_text_and_read_belong_together(self):
        for due in ((), ("b",), ("d", "a")):
            for size in range(1, 4):
                for editions in itertools.product([*EDITIONS, edition_of("a end", "z m")], repeat=size):
                    chain = Chain(editions, due)
                    self.assertEqual(Chain.read(str(chain)), chain)
                    self.assertEqual(str(Chain.read(str(chain))), str(chain))

    def test_words_of_the_texts_may_be_names(self):
        text = "due due end mark\nedition\ndrops due end\ndue ask due due due\nend end\nedition\ndrops\nask end"
        self.assertEqual(str(Chain.read(text)), text)


class WrongTexts(Checked):
    RIGHT = ["due d", "edition", "drops m", "a ask x y b", "b end", "edition", "drops", "c note w d", "d end",
             "edition", "drops", "e end"]

    def refused(self, lines, at):
        text = lines if isinstance(lines, str) else "\n".join(lines)
        with self.subTest(text=text):
            with self.assertRaises(InvalidText) as caught:
                Chain.read(text)
            self.assertIs(caught.exception.__class__, InvalidText)
            self.assertIsInstance(caught.exception, LogError)
            self.assertEqual(caught.exception.at, at)
            self.assertIs(caught.exception.at.__class__, int)

    def wrong_edition(self, lines, word):
        with self.subTest(lines=lines):
            with self.assertRaises(InvalidEdition) as caught:
                Chain.read("\n".join(lines))
            self.assertEqual(caught.exception.word, word)

    def test_the_right_one(self):
        self.assertEqual(len(Chain.read("\n".join(self.RIGHT))), 3)

    def test_the_first_line(self):
        for line in ("", " ", "due ", " due", "due  d", "due d ", "Due", "dued", "due, d", "dues", "due D", "due abcde",
                     "due d  e", "due 1", "due\td", "d due", "drops", "edition", "a end", "due d;", "due edition", "d",
                     "due\r"):
            self.refused([line, *self.RIGHT[1:]], 0)
            self.refused(line, 0)
            self.refused([line, "wrong", "wrong"], 0)
        for name in NO_NAMES:
            if name != "a b" and "\n" not in name:
                self.refused(["due " + name, *self.RIGHT[1:]], 0)
        self.refused(self.RIGHT[1:], 0)

    def test_the_second_line(self):
        for line in ("", " ", "edition ", " edition", "editions", "Edition", "edition 0", "edition m", "drops", "due",
                     "a end", "edition\t"):
            self.refused(["due", line, *self.RIGHT[2:]], 1)
            self.refused(["due", line], 1)
        self.refused(["due", *self.RIGHT[2:]], 1)

    def test_the_line_behind_each_edition(self):
        for at in (2, 6, 10):
            for line in ("", " ", "drop", "drops ", "drops  m", "drops M", "drops abcde", "edition", "due", "a end",
                         "drops drops", "m drops", "drops m n "):
                self.refused([*self.RIGHT[:at], line, *self.RIGHT[at + 1:]], at)
            self.refused([*self.RIGHT[:at], *self.RIGHT[at + 1:]], at)
            for name in NO_NAMES:
                if name != "a b" and "\n" not in name:
                    self.refused([*self.RIGHT[:at], "drops " + name, *self.RIGHT[at + 1:]], at)

    def test_the_lines_of_rows(self):
        for at in (3, 4, 7, 8, 11):
            for line in ("", " ", "drops", "drops m", "due", "due d", "edition ", "x", "x end ", " x end", "x  end",
                         "x end end", "x ask n", "x ask n y", "x ask n y b z", "x ask n y b y c", "x note w",
                         "x mark m b", "X end", "abcde end", "x gate m b b", "end"):
                self.refused([*self.RIGHT[:at], line, *self.RIGHT[at + 1:]], at)
                self.refused([*self.RIGHT[:at], line, *self.RIGHT[at:]], at)

    def test_at_least_one_row(self):
        for at in (3, 7, 11):
            self.refused([*self.RIGHT[:at], "edition", *self.RIGHT[at:]], at)
        self.refused([*self.RIGHT[:3], *self.RIGHT[5:]], 3)
        self.refused([*self.RIGHT[:7], *self.RIGHT[9:]], 7)

    def test_lines_that_are_lacking(self):
        for at in (1, 2, 3, 6, 7, 10, 11):
            self.refused(self.RIGHT[:at], at)
        for at in (5, 9, 12):
            self.assertEqual(len(Chain.read("\n".join(self.RIGHT[:at]))), {5: 1, 9: 2, 12: 3}[at])
        # A row is enough, but a place to which it leads is not.
        self.wrong_edition(self.RIGHT[:4], "then")
        self.wrong_edition(self.RIGHT[:8], "then")

    def test_a_line_more_at_the_end(self):
        self.refused("\n".join(self.RIGHT) + "\n", 12)
        self.refused([*self.RIGHT, "", ""], 12)
        self.refused([*self.RIGHT, "due"], 12)
        self.refused([*self.RIGHT, "drops"], 12)
        self.refused([*self.RIGHT, "edition"], 13)
        self.refused([*self.RIGHT, "edition", "drops z"], 14)
        self.refused([*self.RIGHT, "edition", "edition"], 13)
        self.refused([*self.RIGHT, "edition", "drops", ""], 14)

    def test_the_first_one_of_several(self):
        self.refused(["due", "edition", "drops", "a end", "wrong", "b end", "wrong"], 4)
        self.refused(["due", "edition", "wrong", "wrong"], 2)
        self.refused(["due", "wrong", "wrong"], 1)
        self.refused(["due", "edition", "drops", "a end", "edition", "wrong", "a end", "edition"], 5)
        self.refused(["due", "edition", "drops", "wrong", "edition", "wrong"], 3)
        self.refused(["due", "edition", "drops", "wrong", "edition"], 3)
        self.refused("", 0)
        self.refused("\n", 0)
        self.refused("due\n", 1)

    def test_lines_come_ahead_of_the_errors_of_the_constructors(self):
        self.refused(["due d d", "edition", "drops", "a end", "wrong"], 4)
        self.refused(["due d d", "edition", "drops", "a end", "edition"], 5)
        self.refused(["due", "edition", "drops m m", "a end", "edition", "drops"], 6)
        self.refused(["due", "edition", "drops", "a end", "a end", "edition", "drops", "wrong"], 7)
        self.refused(["due", "edition", "drops", "a note w a", "edition", "drop"], 5)
        self.refused(["due d d"], 1)

    def test_then_the_errors_edition_by_edition(self):
        wrongs = {"drops": ["drops m m", "a end"], "place": ["drops", "a end", "a end"],
                  "then": ["drops", "a note w b"], "mark": ["drops m", "a mark m b b", "b end"],
                  "ring": ["drops", "a note w a"]}
        right = ["drops k", "a end"]
        for word, lines in wrongs.items():
            for due in ("due", "due d", "due d d"):
                self.wrong_edition([due, "edition", *lines], word)
                self.wrong_edition([due, "edition", *right, "edition", *lines], word)
                for other in wrongs:
                    self.wrong_edition([due, "edition", *lines, "edition", *wrongs[other]], word)
                    self.wrong_edition([due, "edition", *right, "edition", *lines, "edition", *wrongs[other]], word)

    def test_at_last_those_of_the_chain(self):
        for due in ("due d d", "due d e d", "due e d e d"):
            for size in (5, 9, 12):
                self.wrong("due", Chain.read, "\n".join([due, *self.RIGHT[1:size]]))

    def test_one_character_more(self):
        text = "due d e\nedition\ndrops m k\na ask n y b\nb end\nedition\ndrops\nc end"
        for at in range(len(text) + 1):
            for sign in "A ;\t":
                if sign == " " and 0 < at < len(text) and text[at - 1].isalpha() and text[at].isalpha():
                    continue
                self.refused(text[:at] + sign + text[at:], text[:at].count("\n"))


class Equality(unittest.TestCase):
    def test_chains_are_equal_if_their_texts_are(self):
        end = edition_of("a end")
        chains = [Chain([end]), Chain([end], ["a"]), Chain([end], ["b"]), Chain([end], ["a", "b"]), Chain([end, end]),
                  Chain([edition_of("a end", "m")]), Chain([edition_of("b end")]), Chain([end, edition_of("b end")]),
                  Chain([edition_of("b end"), end]), Chain(EDITIONS), Chain(EDITIONS[::-1]), Chain(EDITIONS, ["d"]),
                  Chain([edition_of("a end; b end")])]
        for one in range(len(chains)):
            for other in range(len(chains)):
                with self.subTest(one=one, other=other):
                    self.assertIs(chains[one] == chains[other], one == other)
                    self.assertIs(chains[one] != chains[other], one != other)

    def test_equal_ones_that_are_made_otherwise(self):
        chain = Chain(EDITIONS, ["d", "b"])
        one, two, three = EDITIONS
        for other in (Chain(tuple(EDITIONS), ("b", "d")),
                      Chain.read(f"due d b\nedition\n{E0}\nedition\n{E1}\nedition\n{E2}"),
                      Chain([one, two], ["d", "b"]) + three,
                      Chain([one, two, one], ["b", "d"]).newest(three),
                      Chain([one, one, two, three], ["b", "d"]).without(1)):
            self.assertTrue(chain == other)
            self.assertFalse(chain != other)

    def test_equal_to_nothing_of_another_class(self):
        chain = Chain([edition_of("a end")])
        others = [str(chain), chain.editions, list(chain.editions), chain.editions[0], [chain], (chain,), object(),
                  Chain, Row.read("a end"), str(chain).split("\n"), InvalidChain("due")]
        for other in others + [value for value in any_values() if not isinstance(value, Chain)]:
            with self.subTest(other=other):
                self.assertIs(chain == other, False)
                self.assertIs(other == chain, False)
                self.assertIs(chain != other, True)
