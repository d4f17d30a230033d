"""[6]: editions and what is wrong with them, with [1] and [2] as far as they are about them."""

import itertools
import unittest

from elderlogs.editions import Edition
from elderlogs.errors import InvalidEdition, LogError, NoPlace
from elderlogs.rows import Ask, End, Gate, Note, Row
from tests.values import any_values, are_drops, are_rows


def rows_of(text):
    """The rows with these texts."""
    return [Row.read(part) for part in text.split("; ")]


class Checked(unittest.TestCase):
    def wrong(self, word, rows, drops=()):
        with self.assertRaises(InvalidEdition) as caught:
            Edition(rows, drops)
        self.assertIs(caught.exception.__class__, InvalidEdition)
        self.assertIsInstance(caught.exception, LogError)
        self.assertIsInstance(caught.exception, ValueError)
        self.assertEqual(caught.exception.word, word)

    def no_place(self, edition, value):
        with self.assertRaises(NoPlace) as caught:
            edition.row(value)
        self.assertIs(caught.exception.__class__, NoPlace)
        self.assertIsInstance(caught.exception, KeyError)
        self.assertNotIsInstance(caught.exception, LogError)
        self.assertIs(caught.exception.name, value)


class Attributes(Checked):
    def setUp(self):
        self.rows = rows_of("p ask pay yes q no r; q mark n r s; r note paid s; s mark m t u; t note ab u; "
                            "u ask fee ok v; v ask pay ok w; w end; x mark n w v; y note paid w; z end")
        self.edition = Edition(self.rows, ["zz", "y", "b", "aa"])

    def test_rows_are_in_their_order(self):
        self.assertEqual(self.edition.rows, tuple(self.rows))
        self.assertEqual(Edition(self.rows[::-1]).rows, tuple(self.rows[::-1]))

    def test_all_that_are_ascending(self):
        self.assertEqual(self.edition.drops, ("aa", "b", "y", "zz"))
        self.assertEqual(self.edition.names, ("fee", "pay"))
        self.assertEqual(self.edition.marks, ("m", "n"))
        self.assertEqual(self.edition.words, ("ab", "paid"))

    def test_many_are_ascending_each_once(self):
        names = ["pay", "b", "zz", "aa", "b", "fee", "abcd", "a", "pay"]
        expected = ("a", "aa", "abcd", "b", "fee", "pay", "zz")
        asks = Edition([Ask(at, name, [("y", "z")]) for at, name in zip("jihgfedcb", names)] + [End("z")])
        gates = Edition([Gate(at, name, "z", "z") for at, name in zip("jihgfedcb", names)] + [End("z")])
        self.assertEqual((asks.names, asks.marks, asks.words), (expected, (), ()))
        self.assertEqual((gates.names, gates.marks, gates.words), ((), expected, ()))
        self.assertEqual(Edition([End("z")], list(dict.fromkeys(names))).drops, expected)

        for words in itertools.combinations(expected, 3):
            for order in (words, words[::-1], words[1:] + words):
                notes = Edition([Note(at, word, "z") for at, word in zip("jihgf", order)] + [End("z")])
                self.assertEqual((notes.names, notes.marks, notes.words), ((), (), words))

    def test_first_is_the_first_place(self):
        self.assertEqual(self.edition.first, "p")
        self.assertEqual(Edition(self.rows[::-1]).first, "z")
        self.assertEqual(Edition(rows_of("q end; p end")).first, "q")

    def test_sequences_are_tuples(self):
        for edition in (self.edition, Edition([End("a")]), Edition((End("a"),), ("m", "n"))):
            for name in ("rows", "drops", "names", "marks", "words"):
                self.assertIs(getattr(edition, name).__class__, tuple)

    def test_what_there_is_none_of_is_empty(self):
        edition = Edition([End("a")])
        self.assertEqual((edition.drops, edition.names, edition.marks, edition.words), ((), (), (), ()))
        self.assertEqual((edition.rows, edition.first), ((End("a"),), "a"))

    def test_marks_are_those_of_gates_only(self):
        self.assertEqual(Edition(rows_of("a mark m b b; b end"), ["n"]).marks, ("m",))
        self.assertEqual(Edition([End("a")], ["n"]).marks, ())

    def test_length_is_the_number_of_rows(self):
        self.assertEqual((len(self.edition), len(Edition([End("a")], ["m", "n"]))), (11, 1))

    def test_by_place_and_by_name(self):
        for edition in (Edition([End("a")], ["m"]), Edition(rows=[End("a")], drops=["m"]),
                        Edition(drops=("m",), rows=(End("a"),)), Edition([End("a")], drops=["m"])):
            self.assertEqual((edition.rows, edition.drops), ((End("a"),), ("m",)))
        self.assertEqual(Edition(rows=[End("a")]).drops, ())

    def test_arguments_are_not_changed_and_later_changes_have_no_effect(self):
        rows, drops = rows_of("b ask d ok a; a end"), ["n", "m"]
        edition = Edition(rows, drops)
        self.assertEqual((rows, drops), (rows_of("b ask d ok a; a end"), ["n", "m"]))
        text = str(edition)
        rows[0] = End("b")
        rows.append(End("c"))
        drops.append("z")
        drops[0] = "k"
        self.assertEqual((len(edition), edition.drops, edition.names), (2, ("m", "n"), ("d",)))
        self.assertEqual(edition.rows, tuple(rows_of("b ask d ok a; a end")))
        self.assertEqual(edition.row("b"), Row.read("b ask d ok a"))
        self.assertEqual(str(edition), text)
        self.no_place(edition, "c")

    def test_editions_are_not_iterable(self):
        self.assertRaises(TypeError, iter, self.edition)
        self.assertRaises(TypeError, list, self.edition)
        with self.assertRaises(TypeError):
            End("w") in self.edition


class RowsByPlace(Checked):
    def test_each_row_is_at_its_place(self):
        edition = Edition(rows_of("p ask pay yes q no r; q note w r; r mark m s s; s end"), ["n"])
        for row in edition.rows:
            self.assertEqual(edition.row(row.place), row)
            self.assertEqual(edition.row(place=row.place), row)

    def test_any_other_value_is_no_place(self):
        edition = Edition(rows_of("a ask pay ok zz; zz note w e; e mark m g g; g end"), ["n"])
        for value in any_values() + ["pay", "ok", "w", "m", "n", "p", "zzz", "drops", "a ask pay ok zz", "g end"]:
            with self.subTest(value=value):
                if value.__class__ is str and value in ("a", "zz", "e", "g"):
                    self.assertEqual(edition.row(value).place, value)
                else:
                    self.no_place(edition, value)


class WrongThings(Checked):
    def test_any_value_for_the_rows(self):
        for value in any_values():
            with self.subTest(value=value):
                if are_rows(value) and all(row.place == "a" and isinstance(row, End) for row in value[:1]):
                    continue
                if are_rows(value):
                    self.assertRaises(InvalidEdition, Edition, value)
                else:
                    self.wrong("rows", value)

    def test_no_sequence_of_at_least_one_row(self):
        end = End("a")
        for value in ([], (), None, end, "a end", "drops\na end", Edition([end]), [end, "b end"], ["a end"], [[end]],
                      ([end],), [(end,)], [end, None], [None, end], [Edition([end])], [end, [end]], [0], True):
            with self.subTest(value=value):
                self.wrong("rows", value)

    def test_any_value_for_the_drops(self):
        for value in any_values():
            with self.subTest(value=value):
                if are_drops(value):
                    self.assertEqual(Edition([End("a")], value).drops, tuple(sorted(value)))
                else:
                    self.wrong("drops", [End("a")], value)

    def test_no_sequence_of_unlike_names(self):
        for value in ("m", "", "mn", None, 0, ["m", "m"], ("m", "n", "m"), ["M"], ["m", "abcde"], [""], ["m", 1],
                      [["m"]], [("m",)], [None], [True], [End("m")], Edition([End("a")], ["m"]), ["m", "n\n"]):
            with self.subTest(value=value):
                self.wrong("drops", [End("a")], value)

    def test_two_rows_at_one_place(self):
        for text in ("a end; a end", "a end; b end; a note w b", "b end; a ask x y b; a ask x y b",
                     "a ask n y b; b end; b mark m c c; c end"):
            with self.subTest(text=text):
                self.wrong("place", rows_of(text))
                self.wrong("place", tuple(rows_of(text)))
        end = End("a")
        self.wrong("place", [end, end])

    def test_a_row_that_leads_to_a_place_that_has_none(self):
        for text in ("a ask n y b", "a ask n y a z b", "a ask n y b z a", "a note w b", "a mark m b c; c end",
                     "a mark m b c; b end", "a end; b note w c", "a end; b ask n y a z c", "a end; b mark m a d",
                     "a ask w m m", "a ask n a y", "a end; c mark m d a", "b note a n; a end"):
            with self.subTest(text=text):
                self.wrong("then", rows_of(text))

    def test_a_gate_with_a_dropped_mark(self):
        rows = rows_of("a mark m b b; b mark n c c; c note w d; d ask k y e; e end")
        for drops in (["m"], ["n"], ["x", "n"], ("n", "a"), ["m", "n"]):
            with self.subTest(drops=drops):
                self.wrong("mark", rows, drops)
        for drops in ([], ["x"], ["a", "b", "w", "k", "y"]):
            self.assertEqual(Edition(rows, drops).drops, tuple(sorted(drops)))

    def test_what_comes_first_of_several_wrong_things(self):
        # Each part is wrong in one way only; one edition has those of several ways.
        parts = {"place": "p end; p end", "then": "t note w none", "mark": "m mark d z z", "ring": "r note w r"}
        words = ["rows", "drops", "place", "then", "mark", "ring"]
        for size in range(1, 7):
            for chosen in itertools.combinations(words, size):
                texts = [parts[word] for word in chosen if word in parts] + ["z end"]
                for order in itertools.permutations(texts):
                    rows = [row for text in order for row in rows_of(text)] + ["z end"] * ("rows" in chosen)
                    drops = ["d", "d"] if "drops" in chosen else ["d"]
                    with self.subTest(chosen=chosen, order=order):
                        self.wrong(chosen[0], rows, drops)

    def test_both_may_be_any_value(self):
        few = [None, 0, True, "a", [], (), ["a"], ["a", "a"], [End("a")], (End("a"), 1), End("a"), [["a"]]]
        for rows, drops in itertools.product(few, few):
            with self.subTest(rows=rows, drops=drops):
                if not are_rows(rows):
                    self.wrong("rows", rows, drops)
                elif not are_drops(drops):
                    self.wrong("drops", rows, drops)
                else:
                    self.assertEqual(Edition(rows, drops).drops, tuple(drops))


class Rings(Checked):
    def test_rings(self):
        for text in (
            "a note w a",
            "a note w b; b note w a",
            "a note w b; b note v c; c note w a",
            "a mark m a b; b end",
            "a mark m b a; b end",
            "a mark m a a",
            "a mark m b c; b mark n a c; c end",
            "a mark m b c; b mark n c a; c end",
            "a mark m c b; b mark n a c; c end",
            "a mark m c b; b mark n c a; c end",
            "a mark m b c; b mark m c a; c end",
            "a mark m b c; b note w a; c end",
            "a mark m c b; b note w a; c end",
            "a note w b; b mark m c a; c end",
            "a note w b; b mark m a c; c note w d; d end",
        ):
            with self.subTest(text=text):
                for order in itertools.permutations(rows_of(text)):
                    self.wrong("ring", list(order))

    def test_rings_that_are_not_begun_with_or_not_come_to(self):
        for text in ("a end; b note w b", "a note w b; b note w b", "a ask n y b; b note w c; c note w b",
                     "a end; b mark m a c; c note w b", "a note w b; b mark m c d; c note w b; d end",
                     "a ask n y b; b end; c mark m c b"):
            with self.subTest(text=text):
                self.wrong("ring", rows_of(text))

    def test_an_ask_in_between_makes_it_no_ring(self):
        for text in ("a ask n y a", "a note w b; b ask n y a", "a mark m b c; b ask n y a; c end",
                     "a mark m c b; b ask n y a; c end", "a note w b; b mark m c d; c ask n y a; d ask n y a",
                     "a ask n y b z a; b note w a", "a ask n y b; b ask n y a"):
            with self.subTest(text=text):
                for order in itertools.permutations(rows_of(text)):
                    self.assertEqual(Edition(list(order)).rows, order)

    def test_ways_that_meet_again_are_no_ring(self):
        for text in ("a mark m b b; b end", "a mark m b c; b note w d; c note w d; d end",
                     "a note w c; b note w c; c end", "a mark m b c; b mark n c d; c note w d; d end",
                     "a mark m b c; b mark m c c; c end"):
            with self.subTest(text=text):
                for order in itertools.permutations(rows_of(text)):
                    self.assertEqual(Edition(order).rows, order)

    def test_all_editions_of_three_rows(self):
        places = "abc"
        kinds = [lambda at: End(at)]
        kinds += [lambda at, x=x: Ask(at, "n", [("y", x)]) for x in places]
        kinds += [lambda at, x=x: Note(at, "w", x) for x in places]
        kinds += [lambda at, x=x, y=y: Gate(at, "m", x, y) for x in places for y in places]
        for chosen in itertools.product(kinds, repeat=3):
            rows = [kind(place) for kind, place in zip(chosen, places)]
            with self.subTest(rows=[str(row) for row in rows]):
                if self.ringed(rows):
                    self.wrong("ring", rows)
                else:
                    self.assertEqual(Edition(rows).rows, tuple(rows))

    def ringed(self, rows):
        steps = {(row.place, str(row).split(" ")[at]) for row in rows
                 for at in {"note": [3], "mark": [3, 4]}.get(str(row).split(" ")[1], [])}
        reached = set(steps)
        for _ in rows:
            reached |= {(one, other) for one, via in reached for step, other in steps if step == via}
        return any(one == other for one, other in reached)

    def test_names_do_not_matter(self):
        self.assertEqual(len(Edition(rows_of("note ask note note note; ask note end end; end end"))), 3)
        self.wrong("ring", rows_of("note note note note; end end"))
