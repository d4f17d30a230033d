"""[8] to [10]: logs, their texts, and how editions play them; with [1] and [2]."""

import itertools
import unittest

from elderlogs.editions import Edition
from elderlogs.errors import InvalidEdition, InvalidLog, InvalidText, LogError
from elderlogs.logs import Played, log_text, read_log, replay
from tests.reference import chances, some_edition, told
from tests.values import E0, E1, E2, NAMES, NO_NAMES, any_values, edition_of, wrong_entry


class Texts(unittest.TestCase):
    LOGS = {
        "": (),
        "m": (("m",),),
        "pay yes": (("pay", "yes"),),
        "pay yes; m; pay no": (("pay", "yes"), ("m",), ("pay", "no")),
        "m; m; m": (("m",), ("m",), ("m",)),
        "a a; a; abcd zzzz": (("a", "a"), ("a",), ("abcd", "zzzz")),
        "drop end; ask mark; note": (("drop", "end"), ("ask", "mark"), ("note",)),
    }

    def test_the_text_of_a_log(self):
        for text, log in self.LOGS.items():
            with self.subTest(text=text):
                self.assertEqual(log_text(log), text)
                self.assertEqual(log_text(list(log)), text)
                self.assertEqual(log_text(log=log), text)

    def test_the_log_of_a_text(self):
        for text, log in self.LOGS.items():
            for read in (read_log(text), read_log(text=text)):
                with self.subTest(text=text):
                    self.assertEqual(read, log)
                    self.assertIs(read.__class__, tuple)
                    self.assertEqual({entry.__class__ for entry in read} - {tuple}, set())

    def test_all_short_logs(self):
        entries = [("a",), ("b",), ("a", "b"), ("b", "a"), ("a", "a")]
        texts = {}
        for size in range(4):
            for log in itertools.product(entries, repeat=size):
                texts[log_text(log)] = log
                self.assertEqual(read_log(log_text(log)), log)
        self.assertEqual(len(texts), 1 + 5 + 25 + 125)

    def test_every_name(self):
        for one, other in itertools.product(NAMES, NAMES):
            log = ((one, other), (other,))
            self.assertEqual(log_text(log), f"{one} {other}; {other}")
            self.assertEqual(read_log(f"{one} {other}; {other}"), log)

    def test_a_log_of_many_entries(self):
        log = (("a", "b"), ("m",)) * 400
        self.assertEqual(read_log(log_text(log)), log)

    def test_a_log_is_not_changed(self):
        log = [("a", "b"), ("m",)]
        log_text(log)
        self.assertEqual(log, [("a", "b"), ("m",)])


class WrongTexts(unittest.TestCase):
    def refused(self, text, at):
        with self.subTest(text=text):
            with self.assertRaises(InvalidText) as caught:
                read_log(text)
            self.assertIs(caught.exception.__class__, InvalidText)
            self.assertIsInstance(caught.exception, LogError)
            self.assertEqual(caught.exception.at, at)
            self.assertIs(caught.exception.at.__class__, int)

    def test_parts_that_are_no_entries(self):
        for part in (" ", "a ", " a", "a  b", "a b ", " a b", "a b c", "A", "a B", "abcde", "a abcde", "a1", "a;b",
                     "a;", ";", ";a", "a,b", "a\n", "\na", "a\tb", "a\nb", "a b\n", "('a',)", "1", "0"):
            self.refused(part, 0)
            self.refused("m; " + part, 1)
            self.refused("a b; m; " + part, 2)
            if not part.endswith(";"):
                self.refused(part + "; m", 0)
                self.refused("a b; m; " + part + "; m; a b", 2)

    def test_what_is_no_name_is_in_no_entry(self):
        for name in NO_NAMES:
            # Two names are an entry, and the empty text is the log without entries.
            if name not in ("a b", ""):
                self.refused(name, 0)
                self.refused("m; " + name, 1)
            self.refused("a " + name, 0)
            self.refused("m; a b; " + name + " a; m", 2)

    def test_the_empty_text_is_no_part_of_several(self):
        self.refused("; ", 0)
        self.refused("; a", 0)
        self.refused("a; ", 1)
        self.refused("a b; m; ", 2)
        self.refused("a; ; b", 1)
        self.refused("; ; ", 0)

    def test_the_separator_is_just_one(self):
        for text, at in (("a;b", 0), ("a ;b", 0), ("a ; b", 0), ("a;  b", 1), ("a;; b", 0), ("a, b", 0), ("a\nb", 0),
                         ("a; b;c", 1), ("a b;\nm", 0), ("a; b;", 1), ("; a; b", 0)):
            self.refused(text, at)

    def test_the_first_one_of_several(self):
        self.refused("a; B; c d e; F", 1)
        self.refused("a; b; c d e; F; ", 2)


class NoLogs(unittest.TestCase):
    def refused(self, value, at):
        edition = Edition.read(E0)
        for call in (lambda: log_text(value), lambda: replay(edition, value)):
            with self.subTest(value=value):
                with self.assertRaises(InvalidLog) as caught:
                    call()
                self.assertIs(caught.exception.__class__, InvalidLog)
                self.assertIsInstance(caught.exception, LogError)
                self.assertEqual(caught.exception.at, at)
                self.assertIs(caught.exception.at.__class__, int)

    def test_any_value(self):
        logs = 0
        for value in any_values():
            if wrong_entry(value) is None:
                logs += 1
                self.assertEqual(read_log(log_text(value)), tuple(value))
                self.assertIsInstance(replay(Edition.read(E0), value), Played)
            else:
                self.refused(value, wrong_entry(value))
        self.assertGreater(logs, 10)

    def test_no_sequences(self):
        for value in (None, 0, True, "", "a b", "m", Edition.read(E0), {("a",): 1}, {("a",)}, object()):
            self.refused(value, 0)

    def test_any_value_for_an_entry(self):
        for value in any_values():
            if wrong_entry([value]) is None:
                continue
            for kind in (list, tuple):
                self.refused(kind([value]), 0)
                self.refused(kind([("a", "b"), value]), 1)
                self.refused(kind([("m",), ("a", "b"), value, ("m",)]), 2)
                self.refused(kind([("m",), value, value, None]), 1)

    def test_any_value_in_an_entry(self):
        for value in any_values():
            if isinstance(value, str) and value in NAMES:
                continue
            for entry in ((value,), (value, "a"), ("a", value), (value, value)):
                self.refused([entry], 0)
                self.refused((("a", "b"), entry), 1)

    def test_entries_are_tuples_of_one_name_or_two(self):
        for entry in ((), ("a", "b", "c"), ("a", "b", "c", "d"), ["a"], ["a", "b"], [], "a", "ab", "a b"):
            self.refused([entry], 0)
            self.refused([("a",), ("a", "b"), entry], 2)

    def test_the_log_is_judged_ahead_of_playing_it(self):
        # The edition is stuck at the first entry already.
        self.refused([("z", "z"), ("z",), None], 2)


class Playing(unittest.TestCase):
    """What an edition does with logs; each case is the rows, the drops and, for some logs, what is told."""

    def check(self, edition, text, place, ways="", word=None, stuck=None):
        expected = tuple([(part.strip("+-"), part[0] == "+") for part in ways.split()])
        log = read_log(text)
        for played in (replay(edition, log), replay(edition, list(log)), replay(log=log, edition=edition)):
            with self.subTest(edition=str(edition), text=text):
                self.assertIs(played.__class__, Played)
                self.assertEqual((played.place, played.ways), (place, expected))
                self.assertEqual((played.word, played.stuck), (word, stuck))
                self.assertIs(played.ways.__class__, tuple)
                for way in played.ways:
                    self.assertEqual((way.__class__, way[1].__class__), (tuple, bool))
                self.assertIn(played.stuck.__class__, (int, None.__class__))
        self.assertEqual(told(str(edition), log), (place, expected, word, stuck))

    def test_asks(self):
        edition = edition_of("a ask pay yes b no c; b ask fee yes d; c end; d end")
        self.check(edition, "", "a")
        self.check(edition, "pay yes", "b")
        self.check(edition, "pay no", "c")
        self.check(edition, "pay yes; fee yes", "d")

    def test_an_ask_is_stuck_at_another_entry(self):
        edition = edition_of("a ask pay yes b no c; b ask fee yes d; c end; d end")
        for entry in ("fee yes", "pay", "yes", "yes pay", "a yes", "m", "z z"):
            self.check(edition, entry, "a", stuck=0)
            self.check(edition, entry + "; pay yes; fee yes", "a", stuck=0)
        self.check(edition, "pay yes; pay yes", "b", stuck=1)
        self.check(edition, "pay yes; pay no; pay yes; fee yes", "b", stuck=1)

    def test_an_answer_that_is_not_taken(self):
        edition = edition_of("a ask pay yes b no c; b ask fee yes d; c end; d end")
        self.check(edition, "pay ok", "a", stuck=0)
        self.check(edition, "pay b", "a", stuck=0)
        self.check(edition, "pay pay", "a", stuck=0)
        self.check(edition, "pay yes; fee no", "b", stuck=1)

    def test_answers_and_places_with_like_names(self):
        edition = edition_of("a ask b c b b c; b ask c a c c a; c end")
        self.check(edition, "b c", "b")
        self.check(edition, "b b", "c")
        self.check(edition, "b c; c a", "c")
        self.check(edition, "b c; c c; b b", "c")

    def test_an_ask_again(self):
        edition = edition_of("a ask x y a n b; b end")
        for many in range(6):
            log = "; ".join(["x y"] * many)
            self.check(edition, log, "a")
            self.check(edition, "; ".join(["x y"] * many + ["x n"]), "b")
            self.check(edition, "; ".join(["x y"] * many + ["x k", "x y"]), "a", stuck=many)

    def test_the_first_row_is_where_it_begins(self):
        self.check(edition_of("c ask x y a; a end; b end"), "", "c")
        self.check(edition_of("b end; a ask x y b"), "", "b")

    def test_entries_behind_an_end(self):
        edition = edition_of("a ask x y b; b end", "n")
        self.check(edition, "x y", "b")
        self.check(edition, "x y; x y", "b", stuck=1)
        self.check(edition, "x y; m", "b", stuck=1)
        self.check(edition, "x y; m; m; x y", "b", stuck=1)
        self.check(edition_of("a end"), "", "a")
        self.check(edition_of("a end"), "m", "a", stuck=0)
        self.check(edition_of("a end"), "x y", "a", stuck=0)

    def test_notes(self):
        edition = edition_of("a note v b; b note w c; c ask x y d n e k c; d note u e; e end")
        self.check(edition, "", "c", word="w")
        self.check(edition, "x y", "e", word="u")
        self.check(edition, "x n", "e", word="w")
        self.check(edition, "x k; x k; x y", "e", word="u")
        self.check(edition, "x z", "c", word="w", stuck=0)
        self.check(edition, "x y; x y", "e", word="u", stuck=1)
        self.check(edition_of("a note v b; b end"), "", "b", word="v")
        self.check(edition_of("a ask x y b; b end; c note v b"), "x y", "b")

    def test_a_gate_with_its_mark(self):
        edition = edition_of("g mark m b c; b ask x y e; c ask z y e; e end")
        self.check(edition, "m", "b", "+m")
        self.check(edition, "m; x y", "e", "+m")
        self.check(edition, "m; z y", "b", "+m", stuck=1)

    def test_a_gate_at_an_entry_that_is_another_one(self):
        edition = edition_of("g mark m b c; b ask x y e; c ask z y e; e end")
        self.check(edition, "z y", "e", "-m")
        self.check(edition, "x y", "c", "-m", stuck=0)
        self.check(edition, "k", "c", "-m", stuck=0)
        self.check(edition, "m y", "c", "-m", stuck=0)
        self.check(edition, "z y; m", "e", "-m", stuck=1)

    def test_an_ask_with_the_name_of_the_mark(self):
        edition = edition_of("g mark m b c; b ask m m e; c ask m y g; e end")
        self.check(edition, "m y; m y", "c", "-m")
        self.check(edition, "m; m m", "e", "+m")
        self.check(edition, "m m", "c", "-m", stuck=0)

    def test_a_gate_at_the_end_of_the_log_waits(self):
        edition = edition_of("a ask x y g; g mark m b c; b end; c end")
        self.check(edition, "x y", "g")
        self.check(edition_of("g mark m b b; b end"), "", "g")
        self.check(edition_of("a note w g; g mark m b c; b note v c; c end"), "", "g", word="w")

    def test_notes_behind_a_gate(self):
        edition = edition_of("a note u g; g mark m b c; b note v d; c note w d; d ask x y e; e end")
        self.check(edition, "", "g", word="u")
        self.check(edition, "m", "d", "+m", "v")
        self.check(edition, "x y", "e", "-m", "w")
        self.check(edition, "k", "d", "-m", "w", stuck=0)

    def test_two_gates_of_one_mark_behind_one_another(self):
        edition = edition_of("g mark m h i; h mark m b c; i mark m c d; b ask x y e; c end; d ask z y e; e end")
        self.check(edition, "", "g")
        self.check(edition, "m", "b", "+m")
        self.check(edition, "m; m", "b", "+m", stuck=1)
        self.check(edition, "m; x y", "e", "+m")
        self.check(edition, "z y", "e", "-m")
        self.check(edition, "x y", "d", "-m", stuck=0)

    def test_gates_of_two_marks_behind_one_another(self):
        edition = edition_of("g mark m b h; h mark k c d; b mark k c d; c ask x y e; d ask z y e; e end")
        self.check(edition, "", "g")
        self.check(edition, "m", "b", "+m")
        self.check(edition, "m; k", "c", "+k +m")
        self.check(edition, "m; z y", "e", "-k +m")
        self.check(edition, "k", "c", "+k -m")
        self.check(edition, "k; x y", "e", "+k -m")
        self.check(edition, "k; m", "c", "+k -m", stuck=1)
        self.check(edition, "z y", "e", "-k -m")
        self.check(edition, "n", "d", "-k -m", stuck=0)

    def test_ways_are_ascending(self):
        edition = edition_of("a mark zz b b; b mark m c c; c mark ab d d; d mark a e e; e mark z f f; f end")
        self.check(edition, "zz; m; ab; a; z", "f", "+a +ab +m +z +zz")
        self.check(edition, "zz; ab; z", "f", "-a +ab -m +z +zz")
        self.check(edition, "z", "f", "-a -ab -m +z -zz")

    def test_a_gate_that_is_come_to_a_second_time(self):
        edition = edition_of("a ask x y g z b; g mark m b c; b ask t y a; c ask s y a")
        self.check(edition, "x y; m; t y; x y", "b", "+m")
        self.check(edition, "x y; m; t y; x y; m", "b", "+m", stuck=4)
        self.check(edition, "x y; m; t y; x y; t y; x y", "b", "+m")
        self.check(edition, "x y; s y; x y", "c", "-m")
        self.check(edition, "x y; s y; x y; m", "c", "-m", stuck=3)
        self.check(edition, "x y; s y; x y; s y; x z", "b", "-m")

    def test_another_gate_of_a_mark_that_is_decided(self):
        edition = edition_of("g mark m a b; a ask x y h; b ask z y h; h mark m c d; c end; d end")
        self.check(edition, "m; x y", "c", "+m")
        self.check(edition, "m; x y; m", "c", "+m", stuck=2)
        self.check(edition, "z y", "d", "-m")
        self.check(edition, "z y; m", "d", "-m", stuck=1)

    def test_dropped_marks_at_an_ask(self):
        edition = edition_of("a ask x y b; b ask n n c; c end", "n k")
        self.check(edition, "n", "a")
        self.check(edition, "n; k; n; n; k", "a")
        self.check(edition, "n; x y; k; n", "b")
        self.check(edition, "x y; n; n n", "c")
        self.check(edition, "x y; n n", "c")
        self.check(edition, "n; k; m; n", "a", stuck=2)
        self.check(edition, "n; n y", "a", stuck=1)

    def test_dropped_marks_at_an_end(self):
        edition = edition_of("a ask x y b; b end", "n k")
        self.check(edition, "x y; n", "b")
        self.check(edition, "x y; n; k; n", "b")
        self.check(edition, "x y; n; k; m", "b", stuck=3)
        self.check(edition, "x y; n; x y; n", "b", stuck=2)

    def test_dropped_marks_at_a_gate(self):
        edition = edition_of("g mark m b c; b end; c ask x y g", "n k")
        self.check(edition, "n", "g")
        self.check(edition, "n; k; n", "g")
        self.check(edition, "n; m", "b", "+m")
        self.check(edition, "n; m; k", "b", "+m")
        self.check(edition, "k; n; x y", "c", "-m")
        self.check(edition, "n; n; z", "c", "-m", stuck=2)
        self.check(edition, "x y; k; n", "c", "-m")

    def test_dropped_marks_at_a_note(self):
        edition = edition_of("a note v b; b ask x y c; c note w d; d end", "n")
        self.check(edition, "n", "b", word="v")
        self.check(edition, "n; x y", "d", word="w")
        self.check(edition, "x y; n; n", "d", word="w")

    def test_a_mark_that_is_neither_dropped_nor_of_a_gate(self):
        edition = edition_of("a ask x y g; g mark m b b; b end", "n")
        for mark in ("k", "m", "x", "y", "a", "nn"):
            self.check(edition, mark, "a", stuck=0)

    def test_the_mark_of_a_gate_that_it_has_not_come_to(self):
        edition = edition_of("a ask x y g; g mark m b c; b end; c end")
        self.check(edition, "m; x y", "a", stuck=0)
        self.check(edition, "x y; m", "b", "+m")

    def test_a_log_of_many_entries(self):
        edition = edition_of("a ask x y b n c; b note w a; c end", "n")
        self.check(edition, "; ".join(["x y", "n"] * 300), "a", word="w")
        self.check(edition, "; ".join(["x y", "n"] * 300 + ["x n", "x y"]), "c", word="w", stuck=601)


class Kinds(unittest.TestCase):
    def test_the_example(self):
        e1, e2 = Edition.read(E1), Edition.read(E2)
        played = replay(e1, read_log("a ok; b ok"))
        self.assertEqual(
            (played.place, played.ways, played.word, played.stuck, replay(e2, [("a", "ok"), ("n",)]).stuck),
            ('v', (('m', False),), None, None, 1))

    def test_nothing_is_changed(self):
        edition = edition_of("a note w g; g mark m b c; b ask x y a; c end", "n")
        text, log = str(edition), [("n",), ("m",), ("x", "y")]
        played = replay(edition, log)
        self.assertEqual((str(edition), log), (text, [("n",), ("m",), ("x", "y")]))
        log[1] = ("z",)
        log.append(("z",))
        self.assertEqual((played.place, played.ways, played.word, played.stuck), ("b", (("m", True),), "w", None))
        self.assertEqual(replay(edition, log).stuck, 1)
        self.assertEqual((played.place, played.ways, played.word, played.stuck), ("b", (("m", True),), "w", None))

    def test_the_same_call_again(self):
        edition = edition_of("a note w g; g mark m b c; b ask x y a; c end", "n")
        for log in ([], [("m",)], [("z",)], [], [("m",)]):
            told_once = [(played.place, played.ways, played.word, played.stuck)
                         for played in (replay(edition, log), replay(edition, tuple(log)))]
            self.assertEqual(told_once[0], told_once[1])
            self.assertEqual(told_once[0], told(str(edition), log))

    def test_played_is_not_iterable(self):
        played = replay(Edition.read(E0), [])
        self.assertRaises(TypeError, iter, played)
        self.assertRaises(TypeError, list, played)
        with self.assertRaises(TypeError):
            "p" in played


class Compared(unittest.TestCase):
    """What the program tells is what the document's words tell when they are followed entry by entry."""

    def same(self, edition, log):
        played = replay(edition, log)
        self.assertEqual((played.place, played.ways, played.word, played.stuck), told(str(edition), log))

    def test_all_short_logs_of_some_editions(self):
        entries = [("m",), ("n",), ("k",), ("x", "y"), ("x", "n"), ("z", "y")]
        for edition in (
            edition_of("a ask x y g n b; g mark m b h; h mark n a c; b note w d; c ask z y g; d end", "k"),
            edition_of("g mark m h a; h mark m a b; a ask x y b n g; b mark n c d; c note v a; d ask z y g"),
            edition_of("a mark n b c; b note v d; c note w d; d mark m e f; e ask x y a; f ask z y a", "k"),
        ):
            for size in range(6):
                for log in itertools.product(entries, repeat=size):
                    self.same(edition, log)

    def test_many_editions(self):
        chance = chances(1)
        entries = [("m",), ("n",), ("k",), ("x",)]
        entries += [(name, answer) for name in "xyzm" for answer in "ynk"]
        editions = 0
        while editions < 400:
            try:
                edition = Edition.read(some_edition(chance))
            except InvalidEdition:
                continue
            editions += 1
            for _ in range(20):
                log = []
                while len(log) < 12 and replay(edition, log).stuck is None:
                    # Most entries would make it stuck: of several the first one with which it goes on is taken.
                    tried = [*log, *chance.sample(entries, 1)]
                    for _ in range(4):
                        if replay(edition, tried).stuck is not None:
                            tried = [*log, *chance.sample(entries, 1)]
                    self.same(edition, tried)
                    log = tried
                for entry in chance.sample(entries, 3):
                    self.same(edition, [*log, entry])
                    self.same(edition, [entry, *log])
