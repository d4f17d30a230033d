"""[20] and [21]: editions that are alike, partings, and what a log tells of those that wrote it; with [1] to [3]."""

import itertools
import unittest

from elderlogs.chains import Chain
from elderlogs.comparing import alike, began, parting, wrote
from elderlogs.editions import Edition
from elderlogs.errors import InvalidEdition, InvalidLog, LogError
from elderlogs.logs import read_log
from elderlogs.works import play
from tests.reference import behind, chances, row_at, some_chain, some_edition, some_marked_chain, told, words_of
from tests.values import E0, E1, E2, any_values, edition_of, wrong_entry

EDITIONS = [Edition.read(E0), Edition.read(E1), Edition.read(E2)]


def shown(text, log):
    """What the edition with a text shows behind a log, by the document's words."""
    place, _, word, stuck = told(text, log)
    if stuck is not None:
        return "stuck"
    row = row_at(text, place)
    if row[1] == "ask":
        return row[1], row[2], sorted(row[3::2]), word
    return row[1], row[2] if row[1] == "mark" else None, word


def first_parting(one, other):
    """Some log with the fewest entries behind which the editions with these texts show something else, or None."""
    entries = [("q",), ("q", "q")]
    for text in (one, other):
        drops, rows = words_of(text)
        entries += [(mark,) for mark in drops]
        entries += [(row[2],) for row in rows.values() if row[1] == "mark"]
        entries += [(row[2], answer) for row in rows.values() if row[1] == "ask" for answer in row[3::2]]
    seen, level = set(), [()]
    while level:
        found = []
        for log in level:
            if shown(one, log) != shown(other, log):
                return log
            pair = (told(one, log), told(other, log))
            # Behind one entry more the stuck ones are as stuck as ahead of it, at the same entry.
            if pair not in seen and shown(one, log) != "stuck":
                seen.add(pair)
                found += [(*log, entry) for entry in sorted(set(entries))]
        level = found
    return None


def writers(chain, log):
    """The numbers of the editions that are live, not stuck, in works with a log, and of those that began them."""
    texts = [str(edition) for edition in chain.editions]
    level = [(first, (first, (), *told(texts[first], ()))) for first in range(len(texts))]
    seen = set(level)
    for first, story in level:
        events = ["mark", *[f"newer {at}" for at in range(len(texts))]]
        for event in sorted({*events, *[f"answer {entry[1]}" for entry in log if len(entry) == 2]}):
            then = behind(texts, story, *kind_of(event))
            if then is not None and then[1] == tuple(log)[:len(then[1])]:
                pair = (first, (*then, *told(texts[then[0]], then[1])))
                if pair not in seen:
                    seen.add(pair)
                    level.append(pair)
    ends = [(first, story[0]) for first, story in level if story[1] == tuple(log) and story[5] is None]
    return tuple(sorted({live for _, live in ends})), tuple(sorted({first for first, _ in ends}))


def kind_of(event):
    """The first word of an event, and its words where the reference looks for them."""
    words = event.split(" ")
    return words[0], [None, None, words[-1], None, words[-1]]


class Checked(unittest.TestCase):
    def parted(self, p, q, text=None):
        """The editions are parted by this log, the only one with the fewest entries; or by none."""
        p, q = [edition_of(*part) if isinstance(part, tuple) else edition_of(part) for part in (p, q)]
        log = None if text is None else read_log(text)
        with self.subTest(p=str(p), q=str(q)):
            self.both(p, q, log)
            self.assertEqual((parting(p, q), parting(q, p)), (log, log))
            self.assertIs(parting(p, p), None)
            self.assertIs(alike(q, q), True)

    def both(self, p, q, log):
        """What is told of two editions belongs together, and the parting is as long as this log."""
        self.assertIs(alike(p, q), log is None)
        self.assertIs(alike(q=p, p=q), log is None)
        found = parting(p, q)
        self.assertEqual(parting(q=q, p=p), found)
        self.assertEqual(found is None, log is None)
        if log is not None:
            self.assertIs(found.__class__, tuple)
            self.assertEqual(len(found), len(log))
            self.assertNotEqual(shown(str(p), found), shown(str(q), found))

    def tells(self, chain, log, live, first):
        """These editions wrote a log, and works with it were begun by these."""
        log = read_log(log) if isinstance(log, str) else log
        with self.subTest(chain=str(chain), log=log):
            for value in (tuple(log), list(log)):
                self.assertEqual((wrote(chain, value), began(chain, value)), (tuple(live), tuple(first)))
            self.assertEqual((wrote(log=log, chain=chain), began(log=log, chain=chain)), (tuple(live), tuple(first)))
            self.assertEqual(writers(chain, log), (tuple(live), tuple(first)))


class Alike(Checked):
    def test_the_example(self):
        e0, e1, e2 = EDITIONS
        self.assertEqual(
            (parting(e0, e2), alike(e1, e1), wrote(Chain([e0, e1, e2]), read_log("a ok; b ok; n")),
             began(Chain([e0, e1]), read_log("a ok; m"))),
            ((('a', 'ok'),), True, (1,), (0, 1)))

    def test_of_the_examples(self):
        for p, q in itertools.product(EDITIONS, EDITIONS):
            self.both(p, q, first_parting(str(p), str(q)))

    def test_rows_answers_and_places_otherwise(self):
        edition = "a ask x y b n c; b note w c; c mark m d e; d ask z y e; e end"
        self.parted(edition, edition)
        self.parted(edition, "a ask x n c y b; d ask z y e; b note w c; e end; c mark m d e")
        self.parted(edition, "e ask x y b n c; b note w d; c mark m zz e; a end; d mark m zz a; zz ask z y a".replace(
            "c mark m zz e", "c mark m zz a"))
        self.parted(edition, edition + "; f ask k y f; g note v f")

    def test_the_empty_log(self):
        self.parted("a end", "a ask x y a", "")
        self.parted("a ask x y a", "a ask z y a", "")
        self.parted("a ask x y a", "a ask x n a", "")
        self.parted("a ask x y a", "a ask x y a n a", "")
        self.parted("a ask x y a", "g mark m a a; a ask x y a", "")
        self.parted("g mark m a a; a end", "g mark n a a; a end", "")
        self.parted("a end", "a note w b; b end", "")
        self.parted("a note v b; b end", "a note w b; b end", "")
        self.parted("a end", "g mark m a a; a end", "")
        self.parted("a note w g; g mark m b b; b end", "g mark m a a; a note w b; b end", "")

    def test_ends(self):
        self.parted("a end", "b end; a note w b")
        self.parted("a end", "a note w b; b end", "")
        self.parted("a ask x y b; b end", "a ask x y c; c end; b ask k y b")

    def test_the_first_that_is_otherwise(self):
        self.parted("a ask x y b; b ask x y c; c ask x y d; d end", "a ask x y b; b ask x y c; c ask x y c",
                    "x y; x y; x y")
        self.parted("a ask x y a n b k a; b end", "a ask x y a n a k a", "x n")
        self.parted("a ask x y b n c; b ask z y a; c ask z y b", "a ask x y b n c; b ask z y a; c ask z y a",
                    "x n; z y")

    def test_last_words(self):
        self.parted("a note v b; b note w c; c end", "a note w c; c end")
        self.parted("a note w b; b note v c; c end", "a note w c; c end", "")
        self.parted("a ask x y b; b note w c; c ask x y c", "a ask x y c; c ask x y b; b note w c", "x y")

    def test_a_word_that_is_seen_only_later(self):
        # At the gate both wait with the same word; behind it the words are unlike.
        self.parted("g mark m b b; b note v c; c end", "g mark m b c; b note v c; c end")
        self.parted("g mark m b b; b note v c; c ask x y c", "g mark m b c; b note v c; c ask x y c", "x y")
        self.parted("g mark m b b; b note v c; c end", "g mark m b b; b note w c; c end", "m")
        # The elder way of a gate leads to an end: what is behind it is seen by no log.
        self.parted("g mark m b c; b end; c end", "g mark m b d; b end; d note w e; e end")
        self.parted("g mark m b c; b end; c end", "g mark m d c; d note w b; b end; c end", "m")

    def test_dropped_marks(self):
        self.parted(("a ask x y b; b end", "m"), "a ask x y b; b end", "m")
        self.parted(("a ask x y b; b end", "m n"), ("a ask x y b; b end", "n"), "m")
        self.parted(("a ask x y b; b end", "m n"), ("a ask x y b; b end", "n m"))
        self.parted(("g mark k a a; a ask x y a", "m"), "g mark k a a; a ask x y a", "m")
        self.parted(("g mark k a a; a ask x y a", "m"), "g mark k h h; h mark m a a; a ask x y a", "k")

    def test_gates_whose_way_is_the_same(self):
        self.parted("g mark m a a; a ask x y g", "g mark m a a; a ask x y a")
        self.parted("g mark m a b; a ask x y g; b ask x y g", "g mark m a a; a ask x y a")
        self.parted("g mark m a b; a ask x y g; b ask x y g", "g mark m a b; a ask x y b; b ask x y a")

    def test_gates_that_are_decided(self):
        # The second gate is decided already: which way it leads is seen by the way of the first one.
        self.parted("g mark m a b; a ask x y h; b ask z y h; h mark m c d; c end; d ask k y d",
                    "g mark m a b; a ask x y c; b ask z y d; c end; d ask k y d")
        self.parted("g mark m a b; a ask x y h; b ask z y h; h mark m c d; c end; d ask k y d",
                    "g mark m a b; a ask x y c; b ask z y c; c end; d ask k y d", "z y")
        self.parted("g mark m a b; a ask x y h; b ask z y h; h mark m c d; c end; d ask k y d",
                    "g mark m a b; a ask x y h; b ask z y h; h mark n c d; c end; d ask k y d", "z y")

    def test_gates_behind_gates(self):
        self.parted("g mark m a h; h mark n a b; a ask x y a; b ask z y b", "g mark m a b; a ask x y a; b ask z y b",
                    "n")
        self.parted("g mark m a h; h mark n a b; a ask x y a; b ask z y b",
                    "g mark m a h; h mark n b b; a ask x y a; b ask z y b", "n")
        self.parted("g mark m h a; h mark n a a; a ask x y a", "g mark m a a; a ask x y a", "m")

    def test_what_only_the_elder_way_leads_to(self):
        # Where they wait at the first gate both show the same, and behind its mark, too.
        for rows in ("g mark m a c", "g mark m a n; n note w c", "g mark m a h; h mark m b c; b ask u y b",
                     "g mark m a h; h mark n a c", "g mark m a h; h note w i; i mark m b n; n note v c; b ask u y b"):
            rows += "; a ask x y a; c ask z y "
            self.parted(rows + "c", rows + "d; d ask k y d", "z y")
            self.parted(rows + "c", rows + "d; d ask z y c")

    def test_rows_that_nothing_leads_to(self):
        self.parted("a ask x y a", "a ask x y a; b ask z y a; c mark m a b; d note w c; e end")
        self.parted(("a ask x y a; b end", "m"), ("a ask x y a; c note w a", "m"))

    def test_rings_of_unlike_lengths(self):
        three = "a ask x y b; b ask x y c; c ask x y a"
        four = "a ask x y b; b ask x y c; c ask x y d; d ask x y a"
        self.parted(three, four)
        self.parted(three.replace("y c", "y b"), four)
        self.parted("a ask x y b; b ask x y c; c ask z y a", "a ask x y b; b ask x y c; c ask z y d; d ask x y c",
                    "x y; x y; z y; x y")

    def test_many_marks(self):
        marks = "bcdefghi"
        rows = [f"{mark} mark {mark} {then} {then}" for mark, then in zip(marks, marks[1:] + "j")]
        self.parted("; ".join([*rows, "j ask x y b"]), "; ".join([*rows, "j ask x y j"]))
        self.parted("; ".join([*rows, "j ask x y b"]), "; ".join([*rows[:-1], "i mark i j j", "j ask x y b"]))
        self.both(edition_of("; ".join([*rows, "j ask x y b"])), edition_of("; ".join([*rows[:-1], "i ask x y b"])),
                  read_log("i"))


class Wrote(Checked):
    def test_one_edition(self):
        chain = Chain([edition_of("g mark m a b; a ask x y g n e; b ask z y g; e end")])
        self.tells(chain, "", [0], [0])
        self.tells(chain, "m", [0], [0])
        self.tells(chain, "m; x y", [0], [0])
        self.tells(chain, "m; x y; x y; x n", [0], [0])
        # An edition alone never goes the elder way.
        for log in ("z y", "x y", "m; m", "m; z y", "m; x k", "m; x n; x y", "m; x n; m", "n", "m; n"):
            self.tells(chain, log, [], [])

    def test_of_the_examples(self):
        chain = Chain(EDITIONS)
        self.tells(chain, "", [0, 1, 2], [0, 1, 2])
        self.tells(chain, "a ok", [0, 1, 2], [0, 1, 2])
        self.tells(chain, "a ok; b ok", [0, 1, 2], [0])
        self.tells(chain, "a ok; m", [1, 2], [0, 1, 2])
        self.tells(chain, "a ok; m; c ok", [1, 2], [0, 1, 2])
        self.tells(chain, "a ok; b ok; n", [1], [0])
        self.tells(chain, "a ok; b ok; n; g ok", [1], [0])
        self.tells(chain, "a ok; b ok; n; g ok; d ok", [], [])
        self.tells(chain, "a ok; b ok; d ok", [0, 2], [0])
        self.tells(chain, "a ok; b ok; m", [], [])
        self.tells(chain, "b ok", [], [])
        self.tells(chain, "a ok; c ok", [], [])

    def test_where_only_a_later_one_can_have_put_a_part_behind(self):
        chain = Chain([edition_of("a ask x y b; b ask z y b"), edition_of("a ask x y b; b ask k y a")])
        self.tells(chain, "x y", [0, 1], [0, 1])
        self.tells(chain, "x y; k y", [1], [0, 1])
        self.tells(chain, "x y; z y", [0], [0])
        self.tells(chain, "x y; z y; k y", [], [])
        self.tells(chain, "x y; k y; x y; k y", [1], [0, 1])
        self.tells(Chain([chain[1], chain[0]]), "x y; k y; x y", [0], [0])
        self.tells(Chain([chain[1], chain[0]]), "x y; z y", [1], [0, 1])

    def test_what_is_over_is_taken_over_by_none(self):
        chain = Chain([edition_of("a ask x y b; b end"), edition_of("a ask x y b; b ask z y b")])
        self.tells(chain, "x y", [0, 1], [0, 1])
        self.tells(chain, "x y; z y", [1], [0, 1])
        chain = Chain([edition_of("a end"), edition_of("a ask x y b; b ask z y b")])
        self.tells(chain, "", [0, 1], [0, 1])
        self.tells(chain, "x y", [1], [1])
        chain = Chain([edition_of("b ask z y e; e end"), edition_of("a ask x y b; b ask z y e; e end"),
                       edition_of("b ask z y c; c ask x y c")])
        self.tells(chain, "z y", [0, 2], [0, 1, 2])
        self.tells(chain, "z y; x y", [2], [0, 1, 2])
        self.tells(chain, "x y", [1], [0, 1])

    def test_a_stuck_one_is_not_told_but_passed(self):
        chain = Chain([edition_of("a ask x y b; b ask z y b"), edition_of("a ask k y a"),
                       edition_of("a ask x y b; b ask u y b")])
        self.tells(chain, "x y", [0, 2], [0, 1, 2])
        self.tells(chain, "k y", [1], [0, 1])
        self.tells(chain, "x y; u y", [2], [0, 1, 2])
        self.tells(chain.without(2), "x y", [0], [0])

    def test_dropped_marks(self):
        chain = Chain([edition_of("g mark m a a; a ask x y g"), edition_of("a ask x y b; b ask z y a", "m n")])
        self.tells(chain, "m", [0, 1], [0])
        self.tells(chain, "m; x y", [0, 1], [0])
        self.tells(chain, "m; x y; z y", [1], [0])
        self.tells(chain, "x y", [1], [0, 1])
        self.tells(chain, "x y; m", [], [])
        self.tells(chain, "n", [], [])
        self.tells(chain, "m; m", [], [])

    def test_the_elder_way(self):
        chain = Chain([edition_of("a ask x y b; b ask z y a"), edition_of("g mark m c a; c ask k y g; a ask x y b; "
                                                                          "b ask z y e; e end")])
        self.tells(chain, "x y; z y", [0, 1], [0])
        self.tells(chain, "m; k y; k y", [1], [0, 1])
        self.tells(chain, "x y; z y; x y", [0], [0])

    def test_a_long_log(self):
        chain = Chain([edition_of("a ask x y a n b; b end"), edition_of("a ask x y c n b; c ask x y a n b; b end")])
        self.tells(chain, [("x", "y")] * 40, [0, 1], [0, 1])
        self.tells(chain, [("x", "y")] * 40 + [("x", "n")], [0, 1], [0, 1])
        self.tells(chain, [("x", "n")] + [("x", "y")] * 40, [], [])


class WrongValues(Checked):
    def test_any_value_for_the_log(self):
        chain = Chain([edition_of("a ask a b a; c mark m a a"), edition_of("a mark a b b; b end", "m ab")])
        right = 0
        for value in any_values():
            at = wrong_entry(value)
            for call in (wrote, began):
                if at is None:
                    right += 1
                    self.assertIs(call(chain, value).__class__, tuple)
                    continue
                with self.assertRaises(InvalidLog) as caught:
                    call(chain, value)
                self.assertIs(caught.exception.__class__, InvalidLog)
                self.assertIsInstance(caught.exception, LogError)
                self.assertEqual(caught.exception.at, at)
        self.assertGreater(right, 5)

    def test_a_wrong_entry_behind_what_no_edition_wrote(self):
        for value in ([("k",), ("k", "k"), ("K",)], [("k",), ("k", "k"), ["k"]], [("k",), ("k", "k"), "k", 7]):
            for call in (wrote, began):
                with self.assertRaises(InvalidLog) as caught:
                    call(Chain(EDITIONS), value)
                self.assertEqual(caught.exception.at, 2)


class Kinds(Checked):
    def test_nothing_is_changed(self):
        chain, log = Chain(EDITIONS, ["d"]), [("a", "ok"), ("b", "ok")]
        text = str(chain)
        wrote(chain, log)
        began(chain, log)
        parting(EDITIONS[0], EDITIONS[1])
        self.assertEqual((str(chain), log, [str(edition) for edition in EDITIONS]),
                         (text, [("a", "ok"), ("b", "ok")], [E0, E1, E2]))

    def test_the_same_call_again(self):
        first = [parting(p, q) for p, q in itertools.product(EDITIONS, EDITIONS)]
        self.assertEqual([parting(p, q) for p, q in itertools.product(EDITIONS, EDITIONS)], first)


class Compared(Checked):
    """What is told is what the document's words tell when they are followed log by log."""

    def test_many_editions(self):
        chance = chances(8)
        sizes = {}
        elder = str(EDITIONS[0])
        while sum(sizes.values()) < 500:
            text = some_edition(chance, chance.choice([elder, None, elder, elder]))
            try:
                p, q = Edition.read(elder), Edition.read(text)
            except InvalidEdition:
                elder = str(EDITIONS[0])
                continue
            log = first_parting(elder, text)
            self.both(p, q, log)
            size = None if log is None else len(log)
            sizes[size] = sizes.get(size, 0) + 1
            elder = text
        self.assertGreater(min(sizes[None], sizes[0], sizes[1], sizes[2]), 5)

    def test_many_logs(self):
        chance = chances(9)
        live, first = {}, {}
        for number in range(150):
            chain = some_chain(chance) if number < 100 else some_marked_chain(chance)
            for _ in range(4):
                log = self.some_log(chance, chain)
                for changed in (log, log[:-1], log[1:], [*log, *log[:1]]):
                    found = writers(chain, changed)
                    self.tells(chain, changed, *found)
                    live[found[0]] = live.get(found[0], 0) + 1
                    first[found[1]] = first.get(found[1], 0) + 1
        for kind in ((), (0,), (1,), (2,), (0, 1), (0, 1, 2)):
            self.assertGreater(live[kind], 1)
        for kind in ((), (0,), (1,), (0, 1), (0, 1, 2)):
            self.assertGreater(first[kind], 1)

    def some_log(self, chance, chain):
        """The log of some work."""
        events = [f"begin {chance.randrange(len(chain))}"]
        for _ in range(chance.choice([1, 2, 4, 7, 10])):
            story = play(chain, events)
            kinds = ["mark", "answer y", "answer n", "answer k", *[f"newer {at}" for at in range(story.live + 1, 3)]]
            for event in chance.sample(kinds, len(kinds)):
                try:
                    play(chain, [*events, event])
                except LogError:
                    continue
                events.append(event)
                break
        return list(play(chain, events).log)
