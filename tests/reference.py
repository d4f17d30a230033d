"""The document's words about logs and works once more, over texts: a log is played from its top each time.

What the program returns is compared with this. It shares nothing with it but the texts of editions.
"""

import functools
import random
import re

from elderlogs.chains import Chain
from elderlogs.editions import Edition
from elderlogs.errors import InvalidEdition

EVENT = re.compile("(begin|newer) (0|[1-9][0-9]*)|(answer) ([a-z]{1,4})|(mark)")


@functools.cache
def words_of(text):
    """The drops of the edition with a text, and the words of its rows by their places."""
    lines = text.split("\n")
    return lines[0].split(" ")[1:], {line.split(" ")[0]: line.split(" ") for line in lines[1:]}


def told(text, log, stand=None, trail=None):
    """Where the edition with a text is behind a log: the place, the ways, the word, the index at which it is stuck.

    It begins at its first place, or goes on from a stand; `trail` keeps the places behind the last entry it used up.
    """
    drops, rows = words_of(text)
    place, ways, word = (next(iter(rows)), (), None) if stand is None else stand
    ways, at, used = dict(ways), 0, 0
    while True:
        if trail is not None:
            if at > used:
                trail.clear()
                used = at
            trail.append(place)
        entry = log[at] if at < len(log) else None
        row = rows[place]
        if entry is not None and len(entry) == 1 and entry[0] in drops:
            at += 1
        elif row[1] == "note":
            word, place = row[2], row[3]
        elif row[1] == "mark" and row[2] in ways:
            place = row[3] if ways[row[2]] else row[4]
        elif entry is None:
            return place, tuple(sorted(ways.items())), word, None
        elif row[1] == "mark":
            ways[row[2]] = entry == (row[2],)
            at += ways[row[2]]
        elif row[1] == "ask" and len(entry) == 2 and entry[0] == row[2] and entry[1] in row[3::2]:
            place = dict(zip(row[3::2], row[4::2]))[entry[1]]
            at += 1
        else:
            return place, tuple(sorted(ways.items())), word, at


def met(texts, due, story, ahead):
    """The faults that are met where a work is, of which this was where it was ahead of the last event, or None."""
    live, log, place, _, word, stuck = story
    if stuck is not None:
        return {"stuck"}
    row = row_at(texts[live], place)
    answered = {entry[0] for entry in log if len(entry) == 2}
    faults = set()
    if row[1] == "ask" and row[2] in due and row[2] in answered:
        faults.add("twice")
    if row[1] == "end" and not set(due) <= answered:
        faults.add("never")
    if ahead is not None and ahead[0] < live and ahead[5] is None and row_at(texts[ahead[0]], ahead[2])[1] == "ask":
        if row[1] in ("ask", "end") and word != ahead[4]:
            faults.add("otherwise")
    return faults


def row_at(text, place):
    """The words of the row at a place."""
    return words_of(text)[1][place]


def story_of(texts, due, events):
    """What a story tells, as a tuple; or the index of the first event that is none or can't happen."""
    story, faults = None, set()
    for at, event in enumerate(events):
        found = EVENT.fullmatch(event) if isinstance(event, str) else None
        if found is None:
            return at
        kind = found[1] or found[3] or found[5]
        if (kind == "begin") != (story is None):
            return at
        then = behind(texts, story, kind, found)
        if then is None:
            return at
        ahead, story = story, (*then, *told(texts[then[0]], then[1]))
        faults |= met(texts, due, story, ahead)
    return (*story, tuple(sorted(faults)))


def behind(texts, story, kind, found):
    """The live edition and the log behind an event of this kind, or None if it can't happen."""
    if kind == "begin":
        return (int(found[2]), ()) if int(found[2]) < len(texts) else None
    live, log, place, _, _, stuck = story
    row = row_at(texts[live], place)
    if stuck is None and row[1] == "end":
        return None
    if kind == "newer":
        return (int(found[2]), log) if live < int(found[2]) < len(texts) else None
    if stuck is not None:
        return None
    if kind == "mark":
        return (live, (*log, (row[2],))) if row[1] == "mark" else None
    if row[1] != "ask" or found[4] not in row[3::2]:
        return None
    return live, (*log, (row[2], found[4]))


def some_row(chance, place, places):
    """The text of some row at a place."""
    then = [chance.choice(places) for _ in range(3)]
    kind = chance.choice(["ask", "ask", "ask", "ask", "note", "note", "mark", "mark", "end"])
    if kind == "ask":
        answers = chance.sample(["y", "n", "k"], chance.choice([1, 1, 2, 3]))
        ways = " ".join([f"{answer} {other}" for answer, other in zip(answers, then)])
        return f"{place} ask {chance.choice('xyz')} {ways}"
    if kind == "note":
        return f"{place} note {chance.choice('vw')} {then[0]}"
    if kind == "mark":
        return f"{place} mark {chance.choice('mnx')} {then[0]} {then[1]}"
    return f"{place} end"


def some_edition(chance, elder=None):
    """The text of some edition, or of one that a few rows or drops keep from being the elder one; it may be wrong."""
    places = "abcdef"
    if elder is None:
        lines = ["drops", *[some_row(chance, place, places) for place in places]]
    else:
        lines = elder.split("\n")
    for _ in range(chance.choice([0, 1, 1, 2, 3])):
        at = chance.randrange(len(lines))
        drops = " ".join(["drops", *sorted(chance.sample("mnxk", chance.choice([0, 1, 2])))])
        lines[at] = some_row(chance, places[at - 1], places) if at > 0 else drops
    return "\n".join(lines)


def chances(seed):
    """A source of choices that is the same in each run."""
    return random.Random(seed)


def some_chain(chance):
    """A chain of some editions of which each one is much like the elder one."""
    texts = []
    while len(texts) < 3:
        text = some_edition(chance, texts[-1] if texts else None)
        try:
            Edition.read(text)
        except InvalidEdition:
            continue
        texts.append(text)
    return Chain([Edition.read(text) for text in texts[:chance.choice([1, 2, 3, 3])]],
                 chance.sample("xyz", chance.choice([0, 1, 1, 2])))


def some_marked_chain(chance):
    """A chain of an edition, and of one or two others that have asks put in behind marks, or left out by them."""
    asked = ["x", "y", "z", "x"]
    elder = ["drops", *[f"{place} ask {chance.choice(asked)} y {then} n {chance.choice('abcde')}"
                        for place, then in zip("abcd", "bcde")], "e end"]
    texts = ["\n".join(elder)]
    marks = chance.sample("mno", 3)
    while len(texts) < chance.choice([2, 2, 3]):
        lines = texts[-1].split("\n")
        for _ in range(chance.choice([1, 2, 2, 3])):
            lines = with_gate(chance, lines, marks)
        try:
            Edition.read("\n".join(lines))
        except InvalidEdition:
            continue
        texts.append("\n".join(lines))
    return Chain([Edition.read(text) for text in texts], chance.sample("xyz", chance.choice([0, 1])))


def with_gate(chance, lines, marks):
    """The lines of an edition where one way leads to one more gate, and from there to something else or where it led.
    """
    words = [line.split(" ") for line in lines]
    at = chance.choice([at for at, row in enumerate(words) if row[1:2] == ["ask"]])
    way = chance.choice([4, 4, 6]) if len(words[at]) > 6 else 4
    then, letter = words[at][way], "abcdefghijklmnopqrstuvwxyz"[len(lines)]
    gate, behind = f"g{letter}", f"h{letter}"
    words[at][way] = gate
    row = chance.choice([f"{behind} ask {chance.choice('ux')} y {then}", f"{behind} note v {then}",
                         f"{behind} ask {chance.choice('xyz')} y {chance.choice('abcde')} n {then}"])
    return [*[" ".join(row) for row in words], f"{gate} mark {chance.choice(marks)} {behind} {then}", row]
