"""Grammars, texts and wrong values for the tests, and a slow way to all readings that shares no code with them."""

import itertools
import random

from treestacks.pairs import Pairs

SHAPES = ("left", "right", "same", "first", "last", "wrap", "ahead", "behind")

# A rule of each shape, each of a kind of its own; the parts are of kinds that are not 0, too.
EACH_SHAPE = Pairs(10, (
    (0, "wrap", 1, 2),
    (1, "left", "a"),
    (2, "right", "b"),
    (3, "same", 0),
    (4, "first", 0),
    (5, "last", 0),
    (6, "ahead", 0, 7),
    (7, "wrap", 8, 9),
    (8, "left", "c"),
    (9, "right", "d"),
    (7, "behind", 0, 7),
    (6, "wrap", 0, 7),
))

# A reading of it of each shape, with its kind and the pair that it gives.
AB = (0, (1,), (2,))
CD = (7, (8,), (9,))
EACH_READING = (
    (AB, 0, (("a",), ("b",))),
    ((1,), 1, (("a",), ())),
    ((2,), 2, ((), ("b",))),
    ((3, AB), 3, (("a",), ("b",))),
    ((4, AB), 4, (("a", "b"), ())),
    ((5, AB), 5, ((), ("a", "b"))),
    ((6, AB, CD), 6, (("c", "d", "a"), ("b",))),
    (CD, 7, (("c",), ("d",))),
    ((8,), 8, (("c",), ())),
    ((9,), 9, ((), ("d",))),
    ((10, AB, CD), 7, (("a",), ("b", "c", "d"))),
    ((11, AB, CD), 6, (("a", "c"), ("d", "b"))),
    ((6, AB, (10, AB, CD)), 6, (("a", "b", "c", "d", "a"), ("b",))),
)


def nested(depth, inner=()):
    """A tuple nested so deep."""
    value = inner
    for _ in range(depth):
        value = (value,)
    return value


class Row(tuple):
    """A tuple of a class of its own."""


# What is no number, no text, no rule, no reading and no tuple of rules.
ODD_VALUES = (
    None, True, False, -1, 1.5, 10 ** 12 - 1, 1 - 10 ** 12, "", "a", "left", b"a", [], [()], {}, [0], [True],
    (None,), (True,), (False,), (-1,), ("",), ((),), ([],), (("a",),), (0, None), (0, ()), (0, "left"),
    EACH_SHAPE, (EACH_SHAPE,), [EACH_SHAPE], nested(60), nested(59, EACH_SHAPE), nested(59, True),
    (None,) * 30000, ["a"] * 30000, "a" * 4000, ("A",), ("a", 0), ("abcd",), ("a" * 4000,),
)

# What is no text.
WRONG_TEXTS = (
    ["a"], "a", "", ("",), ("A",), ("abcd",), ("a", ""), ("a", None), ("a", True), ("a", 0), ("a", ("a",)),
    ("a", ["a"]), ("a", "\u00e9"), ("a", b"a"), ("a", "a "), ("a", EACH_SHAPE), {"a": 1}, *ODD_VALUES,
)


def texts_of(words, most):
    """All texts of at most so many of these words."""
    for many in range(most + 1):
        yield from itertools.product(words, repeat=many)


def is_plain(value):
    """Whether each tuple in value is of no class of its own, and each integer no bool, however deep it is."""
    waiting = [value]
    while waiting:
        value = waiting.pop()
        if type(value) not in (tuple, int, str):
            return False
        if type(value) is tuple:
            waiting += value
    return True


def given(rule, parts):
    """What the document says that a rule gives of the pairs of its parts."""
    if rule[1] in ("left", "right"):
        return ((rule[2],), ()) if rule[1] == "left" else ((), (rule[2],))
    (a, b), (c, d) = parts[0], parts[-1]
    return {
        "same": (a, b),
        "first": (a + b, ()),
        "last": ((), a + b),
        "wrap": (a + c, d + b),
        "ahead": (c + d + a, b),
        "behind": (a, b + c + d),
    }[rule[1]]


def size_of(told):
    """The number of words of a (reading, pair)."""
    return len(told[1][0] + told[1][1])


def from_the_rules_up(pairs, most, wanted):
    """For each kind all (reading, pair) of at most so many words that are wanted, each put together just once."""
    known = [[[] for _ in range(most + 1)] for _ in range(pairs.kinds)]
    waiting = [
        (rule[0], ((number,), given(rule, ())))
        for number, rule in enumerate(pairs.rules) if rule[1] in ("left", "right")
    ]
    while waiting:
        kind, new = waiting.pop()
        if size_of(new) > most or not wanted(kind, new[1]):
            continue
        known[kind][size_of(new)].append(new)
        for number, rule in enumerate(pairs.rules):
            for row in rows_with(rule, known, kind, new):
                told = ((number, *[reading for reading, _ in row]), given(rule, [pair for _, pair in row]))
                waiting.append((rule[0], told))
    return [[told for sized in row for told in sized] for row in known]


def rows_with(rule, known, kind, new):
    """The rows of parts for rule, of no more words than are known, of which one at least is the new one."""
    if rule[1] in ("left", "right"):
        return []
    if len(rule) == 3:
        return [[new]] if rule[2] == kind else []
    rows = []
    for size in range(len(known[kind]) - size_of(new)):
        if rule[2] == kind:
            rows += [[new, other] for other in known[rule[3]][size]]
        if rule[3] == kind:
            rows += [[one, new] for one in known[rule[2]][size] if one is not new]
    return rows


def all_of_kinds(pairs, most):
    """For each kind all (reading, pair) of at most so many words."""
    return from_the_rules_up(pairs, most, lambda kind, pair: True)


def has_reading(pairs, text):
    """Whether text has a reading: of each kind one for each pair of pieces of text is kept."""
    pieces = {text[i:j] for i in range(len(text) + 1) for j in range(i, len(text) + 1)}
    seen = set()

    def wanted(kind, pair):
        new = (kind, pair) not in seen
        seen.add((kind, pair))
        return new and pair[0] in pieces and pair[1] in pieces

    return any(first + second == text for _, (first, second) in from_the_rules_up(pairs, len(text), wanted)[0])


def some_rule(chance, kinds, words):
    """A rule of so many kinds, drawn by chance; with one part only to kinds of higher numbers."""
    shape = chance.choice(SHAPES)
    kind = chance.randrange(kinds)
    if shape in ("left", "right"):
        return (kind, shape, chance.choice(words))
    if shape in ("same", "first", "last"):
        return (kind, shape, chance.randrange(kind + 1, kinds)) if kind + 1 < kinds else (kind, "left", words[0])
    return (kind, shape, chance.randrange(kinds), chance.randrange(kinds))


def drawn_pairs(seed, kinds, many, words):
    """Pairs of so many kinds and rules, the same for each seed, the first two rules with a word."""
    chance = random.Random(seed)
    begun = [(chance.randrange(kinds), side, chance.choice(words)) for side in ("left", "right")]
    rules = begun + [some_rule(chance, kinds, words) for _ in range(many - 2)]
    chance.shuffle(rules)
    return Pairs(kinds, tuple(rules))


def alike(one, other):
    """Whether two values of tuples, integers and strings are equal, however deep they are."""
    waiting = [(one, other)]
    while waiting:
        one, other = waiting.pop()
        if not isinstance(one, tuple) or not isinstance(other, tuple):
            if type(one) is not type(other) or one != other:
                return False
        elif len(one) != len(other):
            return False
        else:
            waiting += zip(one, other)
    return True
