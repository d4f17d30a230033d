"""[5]: rows, with [1] and [2] as far as they are about them."""

import itertools
import unittest

from elderlogs.errors import InvalidRow, InvalidText, LogError
from elderlogs.rows import Ask, End, Gate, Note, Row
from tests.values import NAMES, NO_NAMES, any_values, are_ways, is_name

WAYS = (("yes", "b"), ("no", "c"))

# Each kind with its parameters, arguments that are right, and its text.
KINDS = [
    (Ask, ["place", "name", "ways"], ["a", "pay", WAYS], "a ask pay yes b no c"),
    (Note, ["place", "word", "then"], ["a", "paid", "b"], "a note paid b"),
    (Gate, ["place", "mark", "newer", "elder"], ["a", "m", "b", "c"], "a mark m b c"),
    (End, ["place"], ["a"], "a end"),
]

TEXTS = [text for _, _, _, text in KINDS] + [
    "p ask a ok q", "a ask a a a", "a ask b c a d a e a", "a note a a", "a mark a a a", "a mark m b b", "z end",
    "zzzz ask abcd zz q z zzzz", "ask ask ask ask ask", "note note note note", "mark mark mark mark mark", "end end",
    "end ask end end end", "ask end", "mark end", "note mark end end end", "due end", "a ask b z c a c",
    "a ask b a c z c",
]

NO_ROWS = [
    "", " ", "a", "end", "ask", "a ", " end", "a  end", "a end ", " a end", "a end\n", "\na end", "a\nend", "a\tend",
    "a end end", "a end b", "end a", "A end", "abcde end", "a End", "a ends", "a en", "1 end", "\xe9 end", "drops",
    "drops end", "a ask", "a ask b", "a ask b c", "a ask b c d e", "a ask b c d e f g", "a ask b c d c e", "a ask  c d",
    "a ask b c d c d", "a ask B c d", "a ask b C d", "a ask b c D", "a ask abcde c d", "a ask b abcde d", " ask b c d",
    "a ask b c abcde", "a ask b c  d", "a ask b c d ", "a ask b  c d", "a ask b c d  e f", "a asks b c d", "a as b c d",
    "a Ask b c d", "a ask b, c d", "a ask b c d; e f", "a note", "a note b", "a note b c d", "a note b c ", "a note b ",
    "a note  c", "a note b  c", "a note B c", "a note b C", "a note abcde c", "a note b abcde", "abcde note b c",
    "a Note b c", "a mark", "a mark m", "a mark m b", "a mark m b c d", "a mark m b c ", "a mark m b ", "a mark  b c",
    "a mark m  b c", "a mark M b c", "a mark m B c", "a mark m b C", "a mark abcde b c", "a mark m abcde c",
    "a mark m b abcde", "abcde mark m b c", "a gate m b c", "a Mark m b c", "a b c", "a b c d", "a b c d e",
    "a note m b c", "a mark m b", "a ask m b", "a end\na end", "a b", "a " + "b " * 700 + "c", "a ask b" + " c d" * 2,
]


def wrong_word(names, values):
    """The name of the first parameter with a wrong value, or None."""
    for name, value in zip(names, values):
        if not (are_ways(value) if name == "ways" else is_name(value)):
            return name
    return None


class Checked(unittest.TestCase):
    def expect(self, kind, names, values, call):
        """What the call returns has these attributes, or raises the error for the first wrong one."""
        word = wrong_word(names, values)
        if word is None:
            row = call()
            self.assertEqual([getattr(row, name) for name in names],
                             [tuple(value) if name == "ways" else value for name, value in zip(names, values)])
            self.assertIs(row.__class__, kind)
            return
        with self.assertRaises(InvalidRow) as caught:
            call()
        self.assertIs(caught.exception.__class__, InvalidRow)
        self.assertIsInstance(caught.exception, LogError)
        self.assertIsInstance(caught.exception, ValueError)
        self.assertEqual(caught.exception.word, word)


class Constructors(Checked):
    def test_attributes_are_the_arguments_by_place_and_by_name(self):
        for kind, names, values, _ in KINDS:
            for row in (kind(*values), kind(**dict(zip(names, values))), kind(**dict(zip(names[::-1], values[::-1])))):
                with self.subTest(kind=kind.__name__):
                    self.assertEqual([getattr(row, name) for name in names], values)

    def test_all_are_instances_of_row(self):
        for kind, _, values, _ in KINDS:
            self.assertIsInstance(kind(*values), Row)
            self.assertIs(kind(*values).__class__, kind)

    def test_any_value_in_the_place_of_each_argument(self):
        for kind, names, values, _ in KINDS:
            for at, name in enumerate(names):
                for value in any_values():
                    with self.subTest(kind=kind.__name__, name=name, value=value):
                        changed = values[:at] + [value] + values[at + 1:]
                        self.expect(kind, names, changed, lambda: kind(*changed))
                        self.expect(kind, names, changed, lambda: kind(**dict(zip(names, changed))))

    def test_the_first_wrong_argument_is_told(self):
        choices = {name: ["b", "abcde", 1, [[]]] for _, names, _, _ in KINDS for name in names}
        choices["ways"] = [[("c", "d")], [], "cd", None, [["c", "d"]]]
        for kind, names, _, _ in KINDS:
            for values in itertools.product(*[choices[name] for name in names]):
                with self.subTest(kind=kind.__name__, values=values):
                    self.expect(kind, names, list(values), lambda: kind(*values))

    def test_names_are_one_to_four_letters_from_a_to_z(self):
        for name in NAMES + ["b", "bc", "bcd", "bcde", "yyyy", "mnop"]:
            self.assertEqual(End(name).place, name)
        for name in NO_NAMES:
            with self.subTest(name=name):
                self.assertRaises(InvalidRow, End, name)
                self.assertRaises(InvalidRow, Ask, "a", "b", [(name, "c")])
                self.assertRaises(InvalidRow, Ask, "a", "b", [("c", name)])
                self.assertRaises(InvalidRow, Ask, "a", "b", [("c", "d"), (name, "e")])
                self.assertRaises(InvalidRow, Ask, "a", "b", [("c", "d"), ("e", name)])

    def test_each_letter_may_stand_at_each_place_of_a_name(self):
        for letter in "abcdefghijklmnopqrstuvwxyz":
            for name in (letter, letter + "a", "a" + letter, "aa" + letter, "aaa" + letter, letter * 4):
                self.assertEqual(str(End(name)), name + " end")

    def test_one_name_may_stand_everywhere(self):
        self.assertEqual(str(Ask("a", "a", [("a", "a")])), "a ask a a a")
        self.assertEqual(str(Note("a", "a", "a")), "a note a a")
        self.assertEqual(str(Gate("a", "a", "a", "a")), "a mark a a a")


class Ways(unittest.TestCase):
    def wrong(self, ways):
        with self.assertRaises(InvalidRow) as caught:
            Ask("a", "b", ways)
        self.assertEqual(caught.exception.word, "ways")

    def test_a_list_or_a_tuple_makes_a_tuple(self):
        for ways in ([("yes", "b"), ("no", "c")], (("yes", "b"), ("no", "c"))):
            row = Ask("a", "pay", ways)
            self.assertIs(row.ways.__class__, tuple)
            self.assertEqual(row.ways, WAYS)
            for way in row.ways:
                self.assertIs(way.__class__, tuple)

    def test_their_order_is_kept(self):
        self.assertEqual(Ask("a", "b", [("z", "c"), ("a", "d"), ("m", "c")]).ways, (("z", "c"), ("a", "d"), ("m", "c")))

    def test_at_least_one(self):
        self.wrong([])
        self.wrong(())
        self.assertEqual(len(Ask("a", "b", [("c", "d")]).ways), 1)

    def test_pairs_are_tuples_of_two_names(self):
        for way in (["c", "d"], "cd", "c", ("c",), ("c", "d", "e"), (), [], None, 1, End("a"), ("c", 1), (1, "d"),
                    ("c", None), (True, "d"), ("c", ["d"]), (["c"], "d"), (("c", "d"),), ("abcde", "d"), ("c", "")):
            with self.subTest(way=way):
                self.wrong([way])
                self.wrong((way,))
                self.wrong([("x", "y"), way])
                self.wrong([way, ("x", "y")])

    def test_unlike_answers(self):
        self.wrong([("c", "d"), ("c", "e")])
        self.wrong([("c", "d"), ("c", "d")])
        self.wrong([("c", "d"), ("e", "d"), ("c", "f")])
        self.assertEqual(len(Ask("a", "b", [("c", "d"), ("e", "d"), ("d", "d")]).ways), 3)

    def test_later_changes_have_no_effect(self):
        ways = [("c", "d")]
        row = Ask("a", "b", ways)
        ways.append(("e", "f"))
        ways[0] = ("x", "y")
        self.assertEqual(row.ways, (("c", "d"),))
        self.assertEqual(str(row), "a ask b c d")
        self.assertEqual(row, Ask("a", "b", [("c", "d")]))

    def test_the_argument_is_not_changed(self):
        ways = [("z", "d"), ("c", "d")]
        Ask("a", "b", ways)
        self.assertEqual(ways, [("z", "d"), ("c", "d")])


class Texts(unittest.TestCase):
    def test_the_texts_of_the_document(self):
        for kind, _, values, text in KINDS:
            with self.subTest(text=text):
                self.assertEqual(str(kind(*values)), text)
                self.assertEqual(f"{kind(*values)}", text)
                self.assertIs(str(kind(*values)).__class__, str)

    def test_answers_stand_in_their_order(self):
        self.assertEqual(str(Ask("a", "b", [("z", "c"), ("d", "e"), ("f", "c")])), "a ask b z c d e f c")

    def test_read_makes_the_row_with_a_text(self):
        for kind, names, values, text in KINDS:
            for row in (Row.read(text), Row.read(text=text)):
                self.assertIs(row.__class__, kind)
                self.assertEqual([getattr(row, name) for name in names], values)
                self.assertEqual(row, kind(*values))

    def test_read_and_text_belong_together(self):
        for text in TEXTS:
            with self.subTest(text=text):
                self.assertEqual(str(Row.read(text)), text)
                self.assertEqual(Row.read(text), Row.read(text))

    def test_words_of_the_rows_may_be_names(self):
        self.assertEqual(Row.read("end ask mark note end"), Ask("end", "mark", [("note", "end")]))
        self.assertEqual(Row.read("mark note end ask"), Note("mark", "end", "ask"))
        self.assertEqual(Row.read("note mark ask end mark"), Gate("note", "ask", "end", "mark"))
        self.assertEqual(Row.read("ask end"), End("ask"))

    def test_any_other_string(self):
        for text in NO_ROWS + NO_NAMES + ["a" + text for text in NO_NAMES]:
            with self.subTest(text=text):
                self.refused(text)

    def test_texts_with_one_character_more_less_or_otherwise(self):
        for text in TEXTS:
            for at in range(len(text) + 1):
                for other in (text[:at] + text[at + 1:], *[text[:at] + sign + text[at + more:]
                              for sign in " aA\n" for more in (0, 1)]):
                    with self.subTest(text=other):
                        if self.looks_right(other):
                            self.assertEqual(str(Row.read(other)), other)
                        else:
                            self.refused(other)

    def looks_right(self, text):
        words = text.split(" ")
        if len(words) < 2 or not all(is_name(word) for word in words):
            return False
        if words[1] == "ask":
            return len(words) in (5, 7, 9) and len(set(words[3::2])) == len(words[3::2])
        return (words[1], len(words)) in (("note", 4), ("mark", 5), ("end", 2))

    def refused(self, text):
        with self.assertRaises(InvalidText) as caught:
            Row.read(text)
        self.assertIs(caught.exception.__class__, InvalidText)
        self.assertIsInstance(caught.exception, LogError)
        self.assertEqual(caught.exception.at, 0)
        self.assertIs(caught.exception.at.__class__, int)


class Equality(unittest.TestCase):
    def test_rows_are_equal_if_their_texts_are(self):
        texts = TEXTS + ["b ask pay yes b no c", "a ask pad yes b no c", "a ask pay yep b no c", "a ask pay yes a no c",
                         "a ask pay no c yes b", "a ask pay yes b", "b note paid b", "a note pai b", "a note paid c",
                         "b mark m b c", "a mark n b c", "a mark m a c", "a mark m b a", "a mark m c b", "b end"]
        for one in texts:
            for other in texts:
                with self.subTest(one=one, other=other):
                    self.assertIs(Row.read(one) == Row.read(other), one == other)
                    self.assertIs(Row.read(one) != Row.read(other), one != other)

    def test_a_row_that_was_made_equals_one_that_was_read(self):
        for kind, _, values, text in KINDS:
            self.assertTrue(kind(*values) == Row.read(text))
            self.assertFalse(kind(*values) != Row.read(text))

    def test_equal_to_nothing_of_another_class(self):
        for kind, names, values, text in KINDS:
            row = kind(*values)
            for other in [text, text.split(" "), tuple(values), values, [row], (row,), object(), InvalidRow("a"), kind]:
                with self.subTest(kind=kind.__name__, other=other):
                    self.assertIs(row == other, False)
                    self.assertIs(other == row, False)
                    self.assertIs(row != other, True)
            for other in any_values():
                if not isinstance(other, Row):
                    self.assertIs(row == other, False)
                    self.assertIs(row != other, True)

    def test_rows_are_not_iterable(self):
        for kind, _, values, _ in KINDS:
            row = kind(*values)
            self.assertRaises(TypeError, iter, row)
            self.assertRaises(TypeError, list, row)
            with self.assertRaises(TypeError):
                "a" in row
