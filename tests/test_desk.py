"""[23] and [24]: desks, their commands, and what comes first when one is wrong; with [1] and [2]."""

import itertools
import unittest

from elderlogs.chains import Chain
from elderlogs.deciding import faults, story
from elderlogs.desk import Desk
from elderlogs.editions import Edition
from elderlogs.errors import (
    InvalidChain, InvalidCommand, InvalidEdition, InvalidEvent, InvalidText, LogError, NoEdition,
)
from elderlogs.live import Work
from elderlogs.logs import log_text
from elderlogs.works import play
from tests.all_works import FAULTS
from tests.reference import chances, some_chain
from tests.values import E0, E1, E2, any_values, chain_of, edition_of

EDITIONS = [Edition.read(E0), Edition.read(E1), Edition.read(E2)]
OF_WORKS = ["answer ok", "mark", "newer 1", "where", "log", "undo"]
OF_CHAINS = ["begin 0", "faults", *[f"story {fault}" for fault in FAULTS]]


def line(chain):
    """The text of a chain in one line."""
    return str(chain).replace("\n", " ; ")


def state(desk):
    """What a desk keeps, to be compared."""
    if desk.work is None:
        return None if desk.chain is None else str(desk.chain), None
    return str(desk.chain), (desk.work.events, desk.work.asks, len(desk.work), desk.work.played.faults)


class Checked(unittest.TestCase):
    def desk(self, chain=None, *commands):
        desk = Desk()
        if chain is not None:
            self.assertEqual(desk.say("chain " + line(chain)), str(len(chain)))
        for command in commands:
            desk.say(command)
        return desk

    def says(self, desk, *pairs):
        """Each command has this result."""
        for command, result in pairs:
            with self.subTest(command=command):
                found = desk.say(command)
                self.assertEqual(found, result)
                self.assertIs(found.__class__, str)

    def refused(self, desk, command, kind=InvalidCommand, **attributes):
        """The command can't be done, and nothing changes."""
        before, kept = state(desk), (desk.chain, desk.work)
        for call in (lambda: desk.say(command), lambda: desk.say(command=command)):
            with self.subTest(command=command):
                with self.assertRaises(kind) as caught:
                    call()
                self.assertIs(caught.exception.__class__, kind)
                self.assertEqual(vars(caught.exception), attributes)
                self.assertEqual(state(desk), before)
                self.assertIs(desk.chain, kept[0])
                self.assertIs(desk.work, kept[1])


class Commands(Checked):
    def test_the_example(self):
        e0, e1, _ = EDITIONS
        desk = Desk()
        self.assertEqual(
            (desk.say("chain " + str(Chain([e0, e1])).replace("\n", " ; ")), desk.say("begin 0"), desk.say("answer ok"),
             desk.say("newer 1"), desk.say("mark"), desk.say("log"), desk.say("where")),
            ('2', 'begun', 'calm', 'calm', 'calm', 'a ok; m', 't'))

    def test_a_new_desk(self):
        desk = Desk()
        self.assertIs(desk.chain, None)
        self.assertIs(desk.work, None)

    def test_chain(self):
        for editions in (EDITIONS[:1], EDITIONS[:2], EDITIONS):
            for due in ([], ["d"], ["a", "d"]):
                desk = self.desk(Chain(editions, due))
                self.assertIs(desk.chain.__class__, Chain)
                self.assertEqual(desk.chain, Chain(editions, due))
                self.assertIs(desk.work, None)

    def test_another_chain(self):
        desk = self.desk(Chain(EDITIONS), "begin 0", "answer ok")
        self.assertIsNot(desk.work, None)
        self.says(desk, ("chain " + line(Chain(EDITIONS[:2])), "2"))
        self.assertEqual(desk.chain, Chain(EDITIONS[:2]))
        self.assertIs(desk.work, None)
        self.refused(desk, "where")
        # The same chain once more is a chain without a work, too.
        desk.say("begin 1")
        self.says(desk, ("chain " + line(Chain(EDITIONS[:2])), "2"))
        self.assertIs(desk.work, None)

    def test_begin(self):
        desk = self.desk(Chain(EDITIONS))
        for at in (0, 2, 1, 0):
            self.says(desk, (f"begin {at}", "begun"), ("log", "empty"), ("where", "p"))
            self.assertIs(desk.work.__class__, Work)
            self.assertEqual((desk.work.events, len(desk.work)), ((f"begin {at}",), 0))
            self.says(desk, ("answer ok", "calm"), ("log", "a ok"))
        # What is met as a work is begun is not told by this result.
        desk = self.desk(chain_of("a end", due="x"))
        self.says(desk, ("begin 0", "begun"))
        self.assertEqual(desk.work.played.faults, ("never",))

    def test_events(self):
        desk = self.desk(Chain(EDITIONS), "begin 0")
        self.says(desk, ("answer ok", "calm"), ("answer ok", "calm"), ("newer 1", "calm"), ("where", "v"),
                  ("mark", "calm"), ("where", "w"), ("newer 2", "stuck"), ("where", "stuck 2"),
                  ("log", "a ok; b ok; n"))
        self.assertEqual(desk.work.events,
                         ("begin 0", "answer ok", "answer ok", "newer 1", "mark", "newer 2"))

    def test_several_faults(self):
        desk = self.desk(chain_of("a ask x y b; b ask z y b", "a note w b; b ask x y c; c end",
                                  "a note w b; b ask x y c; c ask x y c", due="x z"), "begin 0", "answer y")
        self.says(desk, ("newer 1", "never otherwise"), ("undo", "undone"), ("newer 2", "otherwise twice"))

    def test_where(self):
        desk = self.desk(chain_of("a note w abcd; abcd ask x y g; g mark m a e; e end", "f ask k y f"), "begin 0")
        self.says(desk, ("where", "abcd"), ("answer y", "calm"), ("where", "g"), ("newer 1", "stuck"),
                  ("where", "stuck 0"), ("undo", "undone"), ("mark", "calm"), ("where", "abcd"))

    def test_log(self):
        desk = self.desk(chain_of("a ask x y g; g mark abcd a a"), "begin 0")
        self.says(desk, ("log", "empty"), ("answer y", "calm"), ("log", "x y"), ("mark", "calm"),
                  ("log", "x y; abcd"), ("answer y", "calm"), ("log", "x y; abcd; x y"))

    def test_faults(self):
        for chain, told in ((Chain(EDITIONS), "stuck"), (Chain(EDITIONS[:2]), "none"),
                            (Chain(EDITIONS, ["d"]), "never stuck"),
                            (chain_of("a ask x y b; b ask z y a", "a ask k y a", "a note w b; b ask x y c; c end",
                                      due="x z"), "never otherwise stuck twice")):
            desk = self.desk(chain)
            self.says(desk, ("faults", told))
            self.assertIs(desk.work, None)
            self.says(desk, ("begin 0", "begun"), ("faults", told))

    def test_faults_are_those_of_the_chain(self):
        desk = self.desk(Chain(EDITIONS), "begin 0")
        self.assertEqual(desk.work.played.faults, ())
        self.says(desk, ("faults", "stuck"))

    def test_story(self):
        desk = self.desk(Chain(EDITIONS))
        self.says(desk, ("story stuck", "begin 0, answer ok, answer ok, newer 1, mark, newer 2"),
                  ("story never", "never"), ("story twice", "never"), ("story otherwise", "never"))
        self.assertIs(desk.work, None)
        desk = self.desk(chain_of("a end", due="x"), "begin 0")
        self.says(desk, ("story never", "begin 0"), ("story stuck", "never"))
        self.assertEqual(desk.work.events, ("begin 0",))

    def test_undo(self):
        desk = self.desk(Chain(EDITIONS), "begin 0")
        self.says(desk, ("undo", "nothing"), ("answer ok", "calm"), ("newer 2", "calm"), ("undo", "undone"),
                  ("undo", "undone"), ("undo", "nothing"), ("where", "p"), ("log", "empty"))
        self.assertEqual(desk.work.events, ("begin 0",))

    def test_two_desks(self):
        one, other = self.desk(Chain(EDITIONS), "begin 0"), self.desk(Chain(EDITIONS[:2]), "begin 1")
        one.say("answer ok")
        self.says(other, ("log", "empty"), ("where", "p"))
        self.assertEqual((len(one.chain), len(other.chain)), (3, 2))
        self.assertIs(Desk().chain, None)

    def test_it_is_not_iterable(self):
        self.assertRaises(TypeError, iter, Desk())
        with self.assertRaises(TypeError):
            "a" in Desk()


class WrongCommands(Checked):
    def desks(self):
        """Desks with nothing, with a chain, with a work."""
        return [self.desk(), self.desk(Chain(EDITIONS)), self.desk(Chain(EDITIONS), "begin 0"),
                self.desk(Chain(EDITIONS), "begin 0", "answer ok", "newer 1", "mark")]

    def test_any_value(self):
        for desk in self.desks():
            for value in any_values():
                # A desk with a work, which waits at no gate, could do this one; it is done below.
                if isinstance(value, str) and value == "mark" and desk.work is not None:
                    continue
                self.refused(desk, value)

    def test_without_a_chain(self):
        for command in [*OF_CHAINS, *OF_WORKS, "begin 7", "newer 99", "answer z"]:
            self.refused(Desk(), command)

    def test_without_a_work(self):
        for command in [*OF_WORKS, "newer 99", "answer z"]:
            self.refused(self.desk(Chain(EDITIONS)), command)
        desk = self.desk(Chain(EDITIONS), "begin 0")
        desk.say("chain " + line(Chain(EDITIONS)))
        for command in OF_WORKS:
            self.refused(desk, command)

    def test_words_too_many_and_too_few(self):
        for desk in self.desks():
            for command in ("begin", "answer", "newer", "story", "chain", "begin 0 0", "begin 0 a", "answer ok ok",
                            "newer 1 2", "newer 1 1", "story stuck twice", "story stuck stuck", "mark m", "mark mark",
                            "where p", "log 1", "faults stuck", "undo 1", "faults 0", "log log", "", "mark 0"):
                self.refused(desk, command)

    def test_empty_words_and_newlines(self):
        right = ["begin 0", "answer ok", "mark", "newer 1", "where", "log", "faults", "story stuck", "undo",
                 "chain " + line(Chain(EDITIONS[:1]))]
        for desk in self.desks():
            for command in right:
                first = command.split(" ")[0]
                for wrong in (" " + command, command + " ", command.replace(" ", "  ", 1) + " " * (" " not in command),
                              command + "\n", "\n" + command, command.replace(" ", "\n", 1) + "\n", command + "\n ",
                              first + "\n" + command, command.replace(" ", " \n ", 1) + "\n", command + "  x"):
                    self.refused(desk, wrong)
            for wrong in ("", " ", "  ", "\n", "\n\n", " \n", "chain ", "chain  ", "chain \n", "begin ", "answer "):
                self.refused(desk, wrong)

    def test_words_that_are_none(self):
        for desk in self.desks():
            for command in ("Begin 0", "begin0", "BEGIN 0", "start 0", "chains x", "Mark", "marks", "Where", "wheres",
                            "Log", "logs", "fault", "Faults", "stories stuck", "Story stuck", "redo", "Undo", "quit",
                            "ok", "0", "answers ok", "newest 1", "never", "stuck", "begin\t0", "mark\t", "mark\r",
                            ";", "mark ;", "help", "None"):
                self.refused(desk, command)

    def test_numbers(self):
        for desk in self.desks():
            for number in ("00", "01", "000", "0000", "00000", "010", "0001", "10000", "12345", "99999", "100000", "-1",
                           "-0", "+1", "1.0", "1e1", "0x1", "a", "one", "1_0", "\u0661", "\xb2", "\uff11", "1a", "a1",
                           ";", "1;", "9" * 30):
                self.refused(desk, "begin " + number)
                self.refused(desk, "newer " + number)

    def test_numbers_of_no_edition(self):
        for size in (1, 2, 3):
            desk = self.desk(Chain(EDITIONS[:size]))
            for number in [*range(size, 5), 9, 10, 99, 100, 999, 1000, 1234, 9999]:
                self.refused(desk, f"begin {number}", NoEdition, at=number)
            desk.say("begin 0")
            for number in [*range(size, 5), 9, 10, 99, 100, 999, 1000, 1234, 9999]:
                self.refused(desk, f"begin {number}", NoEdition, at=number)
                self.refused(desk, f"newer {number}", InvalidEvent, at=1)
            self.refused(desk, "newer 0", InvalidEvent, at=1)

    def test_answers(self):
        for desk in self.desks():
            for answer in ("OK", "okays", "o1", "1", "", "ok,", "ok;", "o-k", "\xe9", "_", "ok\n", "ok\t"):
                self.refused(desk, "answer " + answer)
        desk = self.desk(Chain(EDITIONS), "begin 0", "answer ok")
        for answer in ("o", "okay", "no", "mark", "k"):
            self.refused(desk, "answer " + answer, InvalidEvent, at=2)

    def test_faults_of_stories(self):
        for desk in self.desks():
            for fault in ("Stuck", "stuc", "stuckk", "calm", "none", "all", "stuck,", "0", "stuck;", "otherwis"):
                self.refused(desk, "story " + fault)

    def test_events_that_can_not_happen(self):
        desk = self.desk(Chain(EDITIONS), "begin 1")
        self.refused(desk, "mark", InvalidEvent, at=1)
        self.refused(desk, "newer 1", InvalidEvent, at=1)
        self.refused(desk, "answer no", InvalidEvent, at=1)
        desk.say("answer ok")
        self.refused(desk, "answer ok", InvalidEvent, at=2)
        desk.say("mark")
        desk.say("answer ok")
        for command in ("mark", "newer 2", "answer ok"):
            self.refused(desk, command, InvalidEvent, at=4)
        self.says(desk, ("undo", "undone"), ("newer 2", "calm"))

    def test_texts_that_can_not_be_read(self):
        right = line(Chain(EDITIONS[:2]))
        for desk in self.desks():
            for text, at in (("x", 0), ("due", 1), (";", 0), ("due ;", 0), ("; due", 0), ("due; edition", 0),
                             ("due ; edition", 2), ("due ; edition ; drops", 3), ("due ; edition ; drops ; a", 3),
                             ("due ; edition ; drops ; a end ; b", 4), ("due ; edition ; drops ; a end ; edition", 5),
                             ("due D ; edition ; drops ; a end", 0), ("due ; drops ; a end", 1),
                             ("due ; ; edition ; drops ; a end", 1), (right + " ; x", 17), (right + " ;", 16),
                             ("due ; edition ; drops ; a end\t", 3), ("due ; edition ; drops ; a end;", 3)):
                self.refused(desk, "chain " + text, InvalidText, at=at)

    def test_editions_and_chains_that_can_not_be_made(self):
        for desk in self.desks():
            for text, kind, word in (
                ("due ; edition ; drops ; a end ; a end", InvalidEdition, "place"),
                ("due ; edition ; drops ; a note w b", InvalidEdition, "then"),
                ("due ; edition ; drops m m ; a end", InvalidEdition, "drops"),
                ("due ; edition ; drops m ; a mark m a a", InvalidEdition, "mark"),
                ("due ; edition ; drops ; a note w a", InvalidEdition, "ring"),
                ("due x x ; edition ; drops ; a end", InvalidChain, "due"),
                ("due x x ; edition ; drops ; a end ; edition ; drops ; a note w a", InvalidEdition, "ring"),
            ):
                self.refused(desk, "chain " + text, kind, word=word)

    def test_newlines_are_replaced_from_left_to_right(self):
        desk = Desk()
        self.refused(desk, "chain due ; ; edition", InvalidText, at=1)
        # In "a ; ; b" the first three signs are a newline, and what is left is "; b".
        self.refused(desk, "chain due ; edition ; drops ; a end ; ; b end", InvalidText, at=4)
        self.says(desk, ("chain due ; edition ; drops ; a end ; b end", "1"))
        self.assertEqual(desk.chain, Chain([edition_of("a end; b end")]))


class Compared(Checked):
    """What a desk says is what the modules behind it tell."""

    def test_many_commands(self):
        chance = chances(11)
        said = {}
        for _ in range(25):
            desk, chain, events, past = Desk(), None, None, []
            for _ in range(40):
                if chain is None or chance.random() < 0.04:
                    chain, events, past = some_chain(chance), None, []
                    self.says(desk, ("chain " + line(chain), str(len(chain))))
                    self.assertEqual((desk.chain, desk.work), (chain, None))
                    continue
                command = chance.choice(["begin 0", "begin 1", "begin 2", "where", "log", "faults", "undo",
                                         f"story {chance.choice(FAULTS)}", "mark", "mark", "newer 1", "newer 2",
                                         *[f"answer {answer}" for answer in "ynkynkz"]])
                kind = command.split(" ")[0]
                said[kind] = said.get(kind, 0) + 1
                events, past = self.compared(desk, chain, events, past, command)
        self.assertGreater(min(said.values()), 20)
        self.assertEqual(len(said), 9)

    def compared(self, desk, chain, events, past, command):
        """Say one command; return the events of the work, and those of the states that can come back."""
        kind = command.split(" ")[0]
        if kind == "faults":
            self.says(desk, (command, " ".join(faults(chain)) or "none"))
        elif kind == "story":
            self.says(desk, (command, ", ".join(story(chain, command.split(" ")[1]) or ["never"])))
        elif kind == "begin":
            if int(command[-1]) >= len(chain):
                self.refused(desk, command, NoEdition, at=int(command[-1]))
            else:
                self.says(desk, (command, "begun"))
                return [command], []
        elif events is None:
            self.refused(desk, command)
        elif kind == "undo":
            self.says(desk, (command, "undone" if past else "nothing"))
            return (past[-1], past[:-1]) if past else (events, past)
        elif kind == "where":
            now = play(chain, events)
            self.says(desk, (command, now.place if now.stuck is None else f"stuck {now.stuck}"))
        elif kind == "log":
            self.says(desk, (command, log_text(play(chain, events).log) or "empty"))
        else:
            return self.event(desk, chain, events, past, command)
        return events, past

    def event(self, desk, chain, events, past, command):
        """Say a command that is an event."""
        work = Work(chain, int(events[0][-1]))
        work.several(events[1:])
        try:
            met = work.do(command)
        except LogError:
            self.refused(desk, command, InvalidEvent, at=len(events))
            return events, past
        self.says(desk, (command, " ".join(met) or "calm"))
        self.assertEqual(desk.work.events, (*events, command))
        return [*events, command], [*past, events]


class States(Checked):
    def test_each_command_in_each_state(self):
        right = {"begin 0": "begun", "answer ok": "calm", "newer 1": "calm", "where": "p", "log": "empty",
                 "faults": "none", "story stuck": "never", "undo": "nothing"}
        for command, other in itertools.product(right, right):
            self.refused(self.desk(), command)
            desk = self.desk(Chain(EDITIONS[:2]))
            for said in (command, other):
                if said in OF_WORKS and desk.work is None:
                    self.refused(desk, said)
            desk.say("begin 0")
            self.says(desk, (command, right[command]))
