"""Trees for the tests, and slow ways to tree readings and to the rules of trees that share no code with the package."""

import itertools
import random

from treestacks.errors import Endless
from treestacks.trees import Trees

FOOT = ("foot",)
GAP = "_"


def word(letters):
    return ("word", letters)


def plain(*knots):
    return ("plain", knots)


def graft(kind, *knots):
    return ("graft", kind, knots)


# Kind 1 puts a and b around the gap, kind 2 c ahead of it; kind 0 uses them with and without the foot in them.
GROVE = Trees(3, (
    (0, plain(word("x"), graft(1, FOOT))),
    (0, plain(graft(1, word("y"), graft(2, word("z"))), graft(2, plain(FOOT), plain()), word("w"))),
    (1, plain(word("a"), FOOT, word("b"))),
    (2, plain(word("c"), plain(FOOT))),
    (2, graft(1, FOOT)),
    (0, plain(graft(0), FOOT, word("v"))),
))

# Tree readings of it, each with its kind and what it gives, the gap as it stands.
AB = (2, ())
C = (3, ())
XAB = (0, (AB,))
GROVE_READINGS = (
    (AB, 1, ("a", GAP, "b")),
    (C, 2, ("c", GAP)),
    ((4, (AB,)), 2, ("a", GAP, "b")),
    (XAB, 0, ("x", "a", GAP, "b")),
    ((1, (AB, C, C)), 0, ("a", "y", "c", "z", "b", "c", GAP, "w")),
    ((1, (AB, C, (4, (AB,)))), 0, ("a", "y", "c", "z", "b", "a", GAP, "b", "w")),
    ((1, (AB, (4, (AB,)), C)), 0, ("a", "y", "a", "z", "b", "b", "c", GAP, "w")),
    ((5, (XAB,)), 0, ("x", "a", "b", GAP, "v")),
    ((5, ((5, (XAB,)),)), 0, ("x", "a", "b", "v", GAP, "v")),
)


def inside(knot):
    """The knots in knot."""
    return {"plain": knot[-1], "graft": knot[-1]}.get(knot[0], ())


def within(knot):
    """All knots of knot, as they are come to from the left, each ahead of those in it."""
    return [knot] + [one for inner in inside(knot) for one in within(inner)]


def grafts(tree):
    """The kinds of the grafts of a tree, in order."""
    return [knot[1] for knot in within(tree[1]) if knot[0] == "graft"]


def row_given(knot, rows):
    """The words of knot, with the gap, by the words of the tree readings of its grafts, taken from rows."""
    if knot[0] == "word":
        return [knot[1]]
    if knot[0] == "foot":
        return [GAP]
    around = next(rows) if knot[0] == "graft" else (GAP,)
    inner = [one for part in knot[-1] for one in row_given(part, rows)]
    at = around.index(GAP)
    return [*around[:at], *inner, *around[at + 1:]]


def words_given(trees, reading):
    """The words that a tree reading gives, with the gap."""
    number, parts = reading
    return tuple(row_given(trees.trees[number][1], iter([words_given(trees, part) for part in parts])))


def all_tree_readings(trees, most):
    """For each kind all tree readings of at most so many words, each once, with what they give."""
    known = [{} for _ in range(trees.kinds)]
    grown = True
    while grown:
        grown = False
        for number, tree in enumerate(trees.trees):
            rows = [list(known[kind].items()) for kind in grafts(tree)]
            for parts in short_rows(rows, most - len([1 for knot in within(tree[1]) if knot[0] == "word"])):
                reading = (number, tuple(part for part, _ in parts))
                if reading not in known[tree[0]]:
                    known[tree[0]][reading] = tuple(row_given(tree[1], iter([words for _, words in parts])))
                    grown = True
    return known


def short_rows(rows, most):
    """Each choice of a member of each of rows, of at most so many words (all but the gap) in all."""
    if most < 0:
        return []
    if not rows:
        return [()]
    found = []
    for told in rows[0]:
        found += [(told, *rest) for rest in short_rows(rows[1:], most - (len(told[1]) - 1))]
    return found


def text_given(words):
    """The text of words with a gap."""
    return tuple(one for one in words if one != GAP)


def shape_of(row):
    """What a row of knots becomes in pairs, as a nested tuple; None where nothing stands.

    A leaf is ("left", word), or ("graft", number, kind) for the graft of this number of its tree.
    """
    foot = [at for at, (knot, _) in enumerate(row) if FOOT in within(knot)]
    made = [shape_of_knot(knot, begin) for knot, begin in row]
    if not foot:
        texts = [one for one in made if one is not None]
        stands = texts[0] if texts else None
        for one in texts[1:]:
            stands = ("behind", stands, one)
        return stands
    stands = made[foot[0]]
    for one in made[:foot[0]][::-1]:
        if one is not None:
            stands = ("first", one) if stands is None else ("ahead", stands, one)
    for one in made[foot[0] + 1:]:
        if one is not None:
            stands = ("last", one) if stands is None else ("behind", stands, one)
    return stands


def shape_of_knot(knot, begin):
    """What knot becomes in pairs, begin the number of the first graft in it."""
    if knot[0] == "word":
        return ("left", knot[1])
    if knot[0] == "foot":
        return None
    own = 1 if knot[0] == "graft" else 0
    begins = itertools.accumulate([begin + own] + [len(grafts((0, inner))) for inner in knot[-1]])
    inner = shape_of(list(zip(knot[-1], begins)))
    if knot[0] == "plain":
        return inner
    return ("graft", begin, knot[1]) if inner is None else ("wrap", ("graft", begin, knot[1]), inner)


def shape_of_tree(tree):
    """What tree becomes in pairs."""
    shape = shape_of_knot(tree[1], 0)
    return ("same", shape) if shape[0] == "graft" else shape


def shape_of_reading(trees, reading):
    """What a tree reading becomes in pairs, as a nested tuple of shapes and words."""
    number, parts = reading
    return shape_with(shape_of_tree(trees.trees[number]), [shape_of_reading(trees, part) for part in parts])


def shape_with(shape, parts):
    """The shape with parts at its grafts."""
    if shape[0] == "graft":
        return parts[shape[1]]
    return (shape[0], *[one if isinstance(one, str) else shape_with(one, parts) for one in shape[1:]])


def drawn_row(chance, kinds, words, most):
    """A row of at most so many knots in all with a foot, drawn by chance."""
    row = [FOOT]
    for _ in range(chance.randrange(1, most)):
        at = chance.randrange(len(row) + 1)
        end = chance.randrange(at, len(row) + 1)
        made = chance.choice((
            (word(chance.choice(words)), *row[at:end]), (word(chance.choice(words)), *row[at:end]),
            (plain(*row[at:end]),), (graft(chance.randrange(kinds), *row[at:end]),),
            (graft(chance.randrange(kinds)), *row[at:end]),
        ))
        row[at:end] = made
    return row


def drawn_tree(chance, kinds, words, most):
    """A tree of at most so many knots, drawn by chance."""
    while True:
        row = drawn_row(chance, kinds, words, most)
        knot = row[0] if len(row) == 1 else plain(*row)
        many = [one[0] for one in within(knot)]
        if len(many) <= most and ("word" in many or "graft" in many):
            return (chance.randrange(kinds), knot)


def drawn_trees(seed, kinds, many, words, most=12):
    """Trees of so many kinds and trees of at most so many knots, the same for each seed, one of them a leaf."""
    chance = random.Random(seed)
    while True:
        leaf = (chance.randrange(kinds), plain(FOOT, word(words[0])))
        trees = [leaf] + [drawn_tree(chance, kinds, words, most) for _ in range(many - 1)]
        chance.shuffle(trees)
        try:
            return Trees(kinds, tuple(trees))
        except Endless:
            pass
