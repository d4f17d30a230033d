"""Values for the tests: some of every kind that the document calls any value, and what of them is right."""

import re

from elderlogs.chains import Chain
from elderlogs.desk import Desk
from elderlogs.editions import Edition
from elderlogs.errors import InvalidFault, InvalidText, NoEdition, NoPlace
from elderlogs.live import Work
from elderlogs.logs import replay
from elderlogs.rows import Ask, End, Gate, Note, Row
from elderlogs.works import play

# The texts of the three editions of the document's examples.
E0 = "drops\np ask a ok q\nq ask b ok r\nr ask d ok s\ns end"
E1 = ("drops\np ask a ok q\nq mark m t u\nt ask c ok s\nu ask b ok v\nv mark n w r\nw ask g ok s\nr ask d ok s\n"
      "s end")
E2 = "drops\np ask a ok q\nq mark m t u\nt ask c ok s\nu ask b ok r\nr ask d ok s\ns end"

NAMES = ["a", "z", "m", "abcd", "zzzz", "az", "ask", "end", "mark", "note", "due"]

# Strings that are no names: too short, too long, or with a character just beside a to z or far from it.
NO_NAMES = [
    "", "abcde", "drops", "A", "aB", "Z", "`", "{", "a`", "{z", "1", "a1", "_", "a_b", "a-b", " ", "a ", " a", "a b",
    "\n", "a\n", "\na", "a\t", "a\r", "\x00", "%", "a.", "\xe9", "\xdf", "\xaa", "\u0131", "\u017f", "\uff41",
    "a\u0301", "\u4e2d", "a" * 1500,
]


def edition_of(rows, drops=""):
    """The edition with rows of these texts."""
    return Edition([Row.read(part) for part in rows.split("; ")], drops.split())


def chain_of(*editions, due=""):
    """The chain of editions with rows of these texts, or with such and drops."""
    return Chain([edition_of(*part) if isinstance(part, tuple) else edition_of(part) for part in editions], due.split())


def nested(value, depth, kind):
    """The value inside as many lists or tuples."""
    for _ in range(depth):
        value = kind([value])
    return value


def things():
    """Integers, bools, None, strings, and objects of the package."""
    objects = [
        End("a"), Note("a", "w", "b"), Gate("a", "m", "b", "b"), Ask("a", "b", [("c", "d")]),
        Edition([End("a")]), Edition([End("a")], ["m"]), InvalidText(0), InvalidFault(), NoPlace("a"), NoEdition(1),
        Chain([Edition([End("a")])]), Chain([Edition([End("a")]), Edition([End("b")])], ["a"]),
        replay(Edition([End("a")]), []), play(Chain([Edition([End("a")])]), ["begin 0"]),
        Work(Chain([Edition([End("a")])])), Work(Chain([Edition([End("a")])])).trial(), Desk(),
    ]
    return [0, 1, -1, 2, 97, 10 ** 30, True, False, None] + NAMES + NO_NAMES + objects


def any_values():
    """Values of every kind: the things, and lists and tuples of such, up to eight deep."""
    few = [0, True, None, "a", "", "abcde", End("a"), Edition([End("a")]), [], ()]
    values = things() + [[], ()]
    for kind in (list, tuple):
        values += [kind([thing]) for thing in things()]
        values += [kind([one, other]) for one in few for other in few]
        values += [nested(thing, depth, kind) for thing in few for depth in (2, 3, 7)]
        values += [nested(thing, 8, kind) for thing in (0, None, "a", End("a"))]
        values += [kind([("a", "b")]), kind([["a", "b"]]), kind([("a", "b"), ["c", "d"]]), kind([("a", 1)])]
        values += [kind([("a", "b"), ("a", "c")]), kind([("a", "b", "c")]), kind([("a",)]), kind(["ab"]), kind([()])]
        values += [kind([End("a"), "a"]), kind([[End("a")]]), kind([(End("a"),)]), kind([End("a"), None])]
        values += [kind([("a", "b"), ("c", "d")]), kind([(End("a"), "b")]), kind([("a", [])]), kind([([], "a")])]
        values += [kind([("a",), ("b",)]), kind([("a",), ["b"]]), kind([("a", "b"), ("m",), ()]), kind([("a", True)])]
        values += [kind(["begin 0"]), kind(["begin 0", "mark"]), kind([["begin 0"]]), kind(["begin", 0])]
        values += [kind(["stuck"]), kind(["never", "otherwise", "stuck", "twice"]), kind([["stuck"]])]
    return values


def is_name(value):
    """Whether this, any value, is a name."""
    return isinstance(value, str) and re.fullmatch("[a-z]{1,4}", value) is not None


def are_ways(value):
    """Whether this, any value, may be the ways of an ask."""
    if not isinstance(value, (list, tuple)) or not value:
        return False
    for way in value:
        if not (isinstance(way, tuple) and len(way) == 2 and is_name(way[0]) and is_name(way[1])):
            return False
    return len({way[0] for way in value}) == len(value)


def are_drops(value):
    """Whether this, any value, may be the drops of an edition."""
    if not isinstance(value, (list, tuple)) or not all(is_name(name) for name in value):
        return False
    return len(set(value)) == len(value)


def are_rows(value):
    """Whether this, any value, is a sequence of at least one row."""
    if not isinstance(value, (list, tuple)) or not value:
        return False
    return all(isinstance(row, (Ask, Note, Gate, End)) for row in value)


def are_editions(value):
    """Whether this, any value, is a sequence of at least one edition."""
    return isinstance(value, (list, tuple)) and len(value) > 0 and all(isinstance(item, Edition) for item in value)


def wrong_entry(value):
    """The index that tells why this, any value, is no log, or None if it is one."""
    if not isinstance(value, (list, tuple)):
        return 0
    for at, entry in enumerate(value):
        if not (isinstance(entry, tuple) and len(entry) in (1, 2) and all(is_name(name) for name in entry)):
            return at
    return None
