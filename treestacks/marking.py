"""The rules of stacks that are made of trees, each with what it does in a tree reading.

A row is a tuple (rule, tree, graft): a stack rule; the number of the tree that begins with it, or None; and the
number of the graft at which this tree is put in, among those of the graft's tree, or None where it is outermost.
"""

from treestacks.knots import all_knots, knots_in
from treestacks.stacks import NO_TOP


def rows_of(trees):
    """List the rows of the stacks into which trees is led, in the order of their rules."""
    marks = outermost_marks(trees)
    rows = []
    for number in trees_of_kind(trees, 0):
        rows.append(((0, NO_TOP, (("fresh", 1, (marks[number],)),)), number, None))
    for number, tree in enumerate(trees.trees):
        mark = marks[number]
        graft = 0
        for knot in marked_knots(tree[1]):
            rows.extend(rows_of_knot(trees, marks, knot, mark, graft))
            mark += 1
            graft += 1 if knot[0] == "graft" else 0
    return rows


def marked_knots(knot):
    """List those of knot and all knots within it that get a number: all but the words."""
    return [inner for inner in all_knots(knot) if inner[0] != "word"]


def outermost_marks(trees):
    """List for each tree the number of its outermost knot."""
    marks = []
    following = 1
    for _, knot in trees.trees:
        marks.append(following)
        following += len(marked_knots(knot))
    return marks


def trees_of_kind(trees, kind):
    """List the numbers of the trees of this kind."""
    return [number for number, tree in enumerate(trees.trees) if tree[0] == kind]


def rows_of_knot(trees, marks, knot, mark, graft):
    """List the rows of a knot with the number mark; if it is a graft, it is number graft of its tree."""
    if knot[0] == "foot":
        return [((1, mark, ()), None, None), ((1, mark, (("keep", 2, ()),)), None, None)]
    rows = []
    if knot[0] == "plain":
        rows.append(((1, mark, (("keep", 2, (mark,)),)), None, None))
    else:
        for number in trees_of_kind(trees, knot[1]):
            rows.append(((1, mark, (("keep", 1, (mark, marks[number])),)), number, graft))
    rows.append(((2, mark, parts_for_knots(knot, mark)), None, None))
    return rows


def parts_for_knots(knot, mark):
    """Return the parts for the knots in a knot with the number mark."""
    parts = []
    following = mark + 1
    for inner in knots_in(knot):
        if inner[0] == "word":
            parts.append(inner)
        else:
            word = "keep" if ("foot",) in all_knots(inner) else "fresh"
            parts.append((word, 1, (following,)))
            following += len(marked_knots(inner))
    return tuple(parts)
