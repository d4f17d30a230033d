"""[7]: editions that are made of others, texts of editions, equality; with [1] and [2]."""

import itertools
import unittest

from elderlogs.editions import Edition
from elderlogs.errors import InvalidEdition, InvalidText, LogError, NoPlace
from elderlogs.rows import Ask, End, Gate, Note
from tests.values import E0, E1, E2, NAMES, NO_NAMES, any_values, edition_of


def rows_of(edition):
    """The texts of the rows, as edition_of takes them."""
    return "; ".join([str(row) for row in edition.rows])


class TheExample(unittest.TestCase):
    def test_it(self):
        e1, e0, e2 = Edition.read(E1), Edition.read(E0), Edition.read(E2)
        self.assertEqual(
            (str(e1.without_mark("n")).split("\n")[3:], e1.marks, e2.putting(e0.row("q")).row("q").name),
            (['t ask c ok s', 'u ask b ok w', 'w ask g ok s', 'r ask d ok s', 's end'], ('m', 'n'), 'b'))

    def test_the_texts_of_the_document(self):
        for text in (E0, E1, E2):
            self.assertEqual(str(Edition.read(text)), text)


class Putting(unittest.TestCase):
    def setUp(self):
        self.rows = "a note w b; b mark m c d; c ask n y d; d end"
        self.edition = edition_of(self.rows, "z x")

    def wrong(self, word, row):
        with self.assertRaises(InvalidEdition) as caught:
            self.edition.putting(row)
        self.assertEqual(caught.exception.word, word)

    def test_each_row_is_replaced_where_it_stands(self):
        for at, place in enumerate("abcd"):
            for row in (End(place), Ask(place, "k", [("y", "a"), ("z", "d")])):
                for changed in (self.edition.putting(row), self.edition.putting(row=row)):
                    expected = list(self.edition.rows)
                    expected[at] = row
                    self.assertEqual(changed.rows, tuple(expected))
                    self.assertEqual(changed.row(place), row)
                    self.assertEqual(changed.drops, ("x", "z"))
                    self.assertIs(changed.__class__, Edition)

    def test_attributes_are_those_of_the_new_rows(self):
        changed = self.edition.putting(Ask("a", "k", [("y", "b")])).putting(Note("c", "v", "d"))
        changed = changed.putting(Gate("b", "k", "c", "d"))
        self.assertEqual((changed.names, changed.words, changed.marks, len(changed)), (("k",), ("v",), ("k",), 4))
        self.assertEqual(str(changed), "drops x z\na ask k y b\nb mark k c d\nc note v d\nd end")

    def test_the_first_place_stays(self):
        self.assertEqual(self.edition.putting(End("a")).first, "a")
        self.assertEqual(self.edition.putting(End("d")).first, "a")

    def test_its_own_row_changes_nothing(self):
        for row in self.edition.rows:
            self.assertEqual(self.edition.putting(row), self.edition)

    def test_the_edition_does_not_change(self):
        text = str(self.edition)
        self.edition.putting(End("a"))
        for row in (End("e"), Note("a", "w", "e"), Gate("a", "x", "b", "b"), Note("b", "w", "a")):
            self.assertRaises((NoPlace, InvalidEdition), self.edition.putting, row)
        self.assertEqual((str(self.edition), rows_of(self.edition)), (text, self.rows))
        self.assertEqual(self.edition.row("a"), Note("a", "w", "b"))
        self.assertEqual((self.edition.names, self.edition.words, self.edition.marks), (("n",), ("w",), ("m",)))

    def test_no_row_has_its_place(self):
        # The last ones would be wrong otherwise, too: the place is looked at first.
        for row in (End("e"), End("w"), Note("ab", "w", "b"), Gate("m", "m", "b", "c"), Ask("n", "n", [("y", "a")]),
                    Note("e", "w", "e"), Note("e", "w", "f"), Gate("e", "x", "e", "f")):
            with self.subTest(row=str(row)):
                with self.assertRaises(NoPlace) as caught:
                    self.edition.putting(row)
                self.assertIs(caught.exception.__class__, NoPlace)
                self.assertIsInstance(caught.exception, KeyError)
                self.assertEqual(caught.exception.name, row.place)

    def test_then_errors_as_of_the_constructor(self):
        self.wrong("then", Note("a", "w", "e"))
        self.wrong("then", Ask("d", "n", [("y", "a"), ("z", "e")]))
        self.wrong("then", Gate("b", "x", "c", "e"))
        self.wrong("then", Gate("b", "x", "b", "e"))
        self.wrong("mark", Gate("b", "x", "c", "d"))
        self.wrong("mark", Gate("d", "z", "a", "a"))
        self.wrong("ring", Gate("d", "m", "a", "a"))
        self.wrong("ring", Note("a", "w", "a"))
        self.wrong("ring", Note("b", "w", "a"))
        self.wrong("ring", Gate("b", "m", "c", "a"))


class WithoutMark(unittest.TestCase):
    def check(self, rows, mark, expected, drops="", then=None):
        edition = edition_of(rows, drops)
        text = str(edition)
        for changed in (edition.without_mark(mark), edition.without_mark(mark=mark)):
            self.assertEqual(rows_of(changed), expected)
            self.assertEqual(changed.drops, tuple(sorted({*drops.split(), mark})) if then is None else then)
            self.assertNotIn(mark, changed.marks)
            self.assertEqual(changed, edition_of(expected, " ".join(changed.drops)))
            self.assertIs(changed.__class__, Edition)
        self.assertEqual((str(edition), rows_of(edition)), (text, rows))

    def test_what_led_to_a_gate_leads_to_its_newer_place(self):
        self.check("a ask n y g; g mark m b c; b end; c end", "m", "a ask n y b; b end; c end")
        self.check("a note w g; g mark m b c; b end; c end", "m", "a note w b; b end; c end")
        self.check("a mark k g c; g mark m b c; b end; c end", "m", "a mark k b c; b end; c end")
        self.check("a mark k c g; g mark m b c; b end; c end", "m", "a mark k c b; b end; c end")
        self.check("a mark k g g; g mark m b c; b end; c end", "m", "a mark k b b; b end; c end")

    def test_all_ways_of_an_ask(self):
        self.check("a ask n y g z b x h w a; g mark m b c; h mark m c b; b end; c end", "m",
                   "a ask n y b z b x c w a; b end; c end")

    def test_what_is_only_called_alike_stays(self):
        self.check("a ask g g g; g mark m b b; b note g c; c mark g d d; d end", "m",
                   "a ask g g b; b note g c; c mark g d d; d end")

    def test_gates_behind_one_another(self):
        self.check("a ask n y g; g mark m h b; h mark m i b; i mark m c b; b end; c end", "m",
                   "a ask n y c; b end; c end")
        self.check("a ask n y g z h x i; i mark m c b; h mark m i b; g mark m h b; b end; c end", "m",
                   "a ask n y c z c x c; b end; c end")

    def test_gates_behind_one_another_by_the_elder_way(self):
        self.check("a ask n y g; g mark m b h; h mark m c b; b end; c end", "m", "a ask n y b; b end; c end")

    def test_gates_of_another_mark_in_between_stay(self):
        self.check("a ask n y g; g mark m h b; h mark k i b; i mark m c b; b end; c end", "m",
                   "a ask n y h; h mark k c b; b end; c end")
        self.check("a ask n y g; g mark m h b; h mark k i b; i mark m c b; b end; c end", "k",
                   "a ask n y g; g mark m i b; i mark m c b; b end; c end")

    def test_a_gate_at_the_beginning(self):
        self.check("g mark m c b; a end; b ask n y c; c ask n y d; d end", "m",
                   "c ask n y d; a end; b ask n y c; d end")
        self.check("g mark m a b; a end; b ask n y g; c end", "m", "a end; b ask n y a; c end")

    def test_gates_behind_one_another_at_the_beginning(self):
        self.check("g mark m h b; b end; h mark m i b; c end; i mark m d b; d ask n y g; e end", "m",
                   "d ask n y d; b end; c end; e end")

    def test_a_gate_of_another_mark_comes_first(self):
        self.check("g mark m h b; b end; h mark k b c; c end", "m", "h mark k b c; b end; c end")

    def test_a_gate_that_is_not_the_first_row_moves_nothing(self):
        self.check("a ask n y g; b end; g mark m c b; c end", "m", "a ask n y c; b end; c end")

    def test_rows_to_which_nothing_leads_any_more_stay(self):
        self.check("a ask n y g; g mark m b c; c note w d; b end; d end", "m", "a ask n y b; c note w d; b end; d end")

    def test_a_mark_of_no_gate_is_dropped_only(self):
        self.check("a ask m m b; b note m c; c mark k d e; d end; e end", "m",
                   "a ask m m b; b note m c; c mark k d e; d end; e end", "z b")

    def test_drops_stay_ascending(self):
        self.check("a mark m b b; b end", "m", "b end", "z a", ("a", "m", "z"))
        self.check("b end", "m", "b end", "n k", ("k", "m", "n"))

    def test_a_mark_that_is_dropped_already(self):
        self.check("a mark k b b; b end", "m", "a mark k b b; b end", "z m", ("m", "z"))
        edition = edition_of("a end", "m z")
        self.assertEqual(edition.without_mark("m"), edition)

    def test_one_mark_behind_another(self):
        edition = Edition.read(E1)
        for marks in (("m", "n"), ("n", "m")):
            changed = edition.without_mark(marks[0]).without_mark(marks[1])
            self.assertEqual(str(changed), "drops m n\np ask a ok t\nt ask c ok s\nu ask b ok w\nw ask g ok s\n"
                                           "r ask d ok s\ns end")
            self.assertEqual((changed.marks, changed.drops), ((), ("m", "n")))

    def test_the_same_call_again(self):
        edition = Edition.read(E1)
        self.assertEqual(edition.without_mark("m"), edition.without_mark("m"))
        self.assertEqual(str(edition), E1)

    def test_every_name_is_a_mark(self):
        for name in NAMES:
            self.assertEqual(edition_of("a end").without_mark(name).drops, (name,))

    def test_all_editions_of_three_rows(self):
        """Each row is the one it was, and leads where the newer ways of the gates that went lead."""
        places = "abc"
        kinds = [lambda at: f"{at} end"]
        kinds += [lambda at, x=x: f"{at} ask n y {x} z {at}" for x in places]
        kinds += [lambda at, x=x: f"{at} note w {x}" for x in places]
        kinds += [lambda at, x=x, y=y, m=m: f"{at} mark {m} {x} {y}" for x in places for y in places for m in "mk"]
        for chosen in itertools.product(kinds, repeat=3):
            texts = [kind(place) for kind, place in zip(chosen, places)]
            if sum(" mark m " in text for text in texts) == 0:
                continue
            try:
                edition = edition_of("; ".join(texts))
            except InvalidEdition:
                continue
            with self.subTest(texts=texts):
                self.assertEqual(rows_of(edition.without_mark("m")), self.expected(texts))

    def expected(self, texts):
        words = {text[0]: text.split(" ") for text in texts}

        def behind(place):
            row = words[place]
            return behind(row[3]) if row[1:3] == ["mark", "m"] else place

        def rerouted(row):
            ways = {"ask": [4, 6], "note": [3], "mark": [3, 4], "end": []}[row[1]]
            return " ".join([behind(word) if at in ways else word for at, word in enumerate(row)])

        first = behind("a")
        stay = [place for place in words if behind(place) == place]
        return "; ".join([rerouted(words[place]) for place in sorted(stay, key=lambda place: place != first)])


class Texts(unittest.TestCase):
    def test_the_text_of_an_edition(self):
        self.assertEqual(str(Edition([End("a")])), "drops\na end")
        self.assertEqual(str(Edition([End("a")], ["m"])), "drops m\na end")
        edition = edition_of("b ask n z a y b; c mark m a b; d note w a; a end", "z ab b")
        self.assertEqual(str(edition), "drops ab b z\nb ask n z a y b\nc mark m a b\nd note w a\na end")
        self.assertIs(str(edition).__class__, str)

    def test_read(self):
        for edition in (Edition.read("drops k ab\np ask a ok q\nq end"),
                        Edition.read(text="drops ab k\np ask a ok q\nq end")):
            self.assertIs(edition.__class__, Edition)
            self.assertEqual(edition.rows, (Ask("p", "a", [("ok", "q")]), End("q")))
            self.assertEqual((edition.drops, edition.first, edition.names), (("ab", "k"), "p", ("a",)))
            self.assertEqual(str(edition), "drops ab k\np ask a ok q\nq end")

    def test_drops_in_any_order(self):
        for order in itertools.permutations(["m", "n", "ab", "zzzz"]):
            edition = Edition.read("drops " + " ".join(order) + "\na end")
            self.assertEqual(edition.drops, ("ab", "m", "n", "zzzz"))
            self.assertEqual(edition, Edition([End("a")], order))

    def test_words_of_the_texts_may_be_names(self):
        text = "drops due end\nask mark mark end note\nnote note note end\nend end"
        self.assertEqual(str(Edition.read(text)), text)

    def test_text_and_read_belong_together(self):
        for edition in (edition_of("a end"), edition_of("a ask b c a d b; b note w c; c mark m a a", "k j"),
                        Edition.read(E1).without_mark("m"), Edition.read(E2).putting(Note("q", "w", "t"))):
            self.assertEqual(Edition.read(str(edition)), edition)
            self.assertEqual(str(Edition.read(str(edition))), str(edition))


class WrongTexts(unittest.TestCase):
    def refused(self, text, at):
        with self.subTest(text=text):
            with self.assertRaises(InvalidText) as caught:
                Edition.read(text)
            self.assertIs(caught.exception.__class__, InvalidText)
            self.assertIsInstance(caught.exception, LogError)
            self.assertEqual(caught.exception.at, at)
            self.assertIs(caught.exception.at.__class__, int)

    def wrong(self, text, word):
        with self.subTest(text=text):
            with self.assertRaises(InvalidEdition) as caught:
                Edition.read(text)
            self.assertEqual(caught.exception.word, word)

    def test_the_first_line(self):
        for line in ("", " ", "drop", "drops ", " drops", "drops  m", "drops m ", "Drops", "dropsm", "drops, m", "due",
                     "drops m  n", "drops M", "drops abcde", "drops drops", "drops m n 1", "drops\tm", "m drops", "m",
                     "drops drops m", "edition", "a end", "drops m;", "drops\r", "drops m\x00", "drops \xe9"):
            self.refused(line + "\na end", 0)
            self.refused(line, 0)
            self.refused(line + "\nwrong\nwrong", 0)
        for name in NO_NAMES:
            # Two names are right there, and behind a newline another line begins.
            if name != "a b" and "\n" not in name:
                self.refused("drops " + name + "\na end", 0)
                self.refused("drops m " + name + "\na end", 0)

    def test_none_behind_the_first_line(self):
        self.refused("drops", 1)
        self.refused("drops m", 1)
        self.refused("drops n m", 1)
        self.refused("drops m m", 1)

    def test_the_other_lines(self):
        right = ["a ask n y b", "b note w c", "c mark m d d", "d end"]
        for line in ("", " ", "drops", "drops m", "due", "edition", "a", "x end ", " x end", "x  end", "x end end",
                     "x ask n", "x ask n y", "x ask n y b z", "x ask n y b y c", "x note w", "x note w b c",
                     "x mark m b", "x mark m b c d", "X end", "abcde end", "x gate m b b", "x End", "x\tend",
                     "x end\r", "end"):
            for at in range(1, 6):
                lines = ["drops", *right[:at - 1], line, *right[at - 1:]]
                self.refused("\n".join(lines), at)
        self.refused("drops\n", 1)
        self.refused("drops\na end\n", 2)
        self.refused("drops\n\na end", 1)
        self.refused("\ndrops\na end", 0)
        self.refused("drops\n\n", 1)

    def test_the_first_one_of_several(self):
        self.refused("drops\na end\nwrong\nb end\nwrong", 2)
        self.refused("drops\nwrong\na end\nwrong", 1)
        self.refused("drop\nwrong", 0)
        self.refused("drops\na end\nb end\nc end\n\n\n", 4)

    def test_lines_come_ahead_of_the_errors_of_the_constructor(self):
        self.refused("drops m m\na end\nwrong", 2)
        self.refused("drops\na end\na end\nwrong", 3)
        self.refused("drops\na note w none\nwrong", 2)
        self.refused("drops m\na mark m b b\nb end\n", 3)
        self.refused("drops\na note w a\nwrong", 2)

    def test_then_the_errors_of_the_constructor(self):
        self.wrong("drops m m\na end", "drops")
        self.wrong("drops m n m\na end\na end", "drops")
        self.wrong("drops\na end\na end", "place")
        self.wrong("drops\na note w none", "then")
        self.wrong("drops n m\na mark m b b\nb end", "mark")
        self.wrong("drops\na note w a", "ring")

    def test_texts_with_one_character_more_less_or_otherwise(self):
        text = "drops m k\na ask n y b\nb end"
        for at in range(len(text) + 1):
            line = text[:at].count("\n")
            for sign in "A ;\t":
                other = text[:at] + sign + text[at:]
                if sign == " " and 0 < at < len(text) and text[at - 1].isalpha() and text[at].isalpha():
                    continue
                self.refused(other, line)


class Equality(unittest.TestCase):
    def test_editions_are_equal_if_their_texts_are(self):
        editions = [edition_of("a end"), edition_of("a end", "m"), edition_of("a end", "n"), edition_of("a end", "m n"),
                    edition_of("b end"), edition_of("a end; b end"), edition_of("b end; a end"), Edition.read(E0),
                    Edition.read(E1), Edition.read(E2), edition_of("a ask n y a z a"), edition_of("a ask n z a y a")]
        for one in range(len(editions)):
            for other in range(len(editions)):
                with self.subTest(one=one, other=other):
                    self.assertIs(editions[one] == editions[other], one == other)
                    self.assertIs(editions[one] != editions[other], one != other)

    def test_equal_ones_that_are_made_otherwise(self):
        edition = Edition([End("a"), Note("b", "w", "a")], ["m", "n"])
        for other in (Edition((End("a"), Note("b", "w", "a")), ("n", "m")),
                      Edition.read("drops n m\na end\nb note w a"),
                      edition_of("a end; b note w a", "m").without_mark("n"),
                      edition_of("a end; b end", "m n").putting(Note("b", "w", "a"))):
            self.assertTrue(edition == other)
            self.assertFalse(edition != other)

    def test_equal_to_nothing_of_another_class(self):
        edition = Edition([End("a")], ["m"])
        others = [str(edition), edition.rows, list(edition.rows), End("a"), [edition], (edition,), object(), Edition,
                  InvalidEdition("rows"), str(edition).split("\n")]
        for other in others + [value for value in any_values() if not isinstance(value, Edition)]:
            with self.subTest(other=other):
                self.assertIs(edition == other, False)
                self.assertIs(other == edition, False)
                self.assertIs(edition != other, True)
        for row in (End("a"), Note("a", "w", "b")):
            self.assertIs(row == edition, False)
