"""Knots and the trees that are made of them: what counts as one, and what a tree gives."""

from treestacks.basics import is_between, is_word

MOST_KNOTS = 12


def is_tree(value, kinds):
    """Tell whether value is a tree of so many kinds."""
    if not isinstance(value, tuple) or len(value) != 2 or not is_between(value[0], 0, kinds - 1):
        return False
    shapes = []
    waiting = [value[1]]
    while waiting:
        knot = waiting.pop()
        # Knots are counted as they come: a value may be far larger and deeper than a tree can be.
        if len(shapes) == MOST_KNOTS or not begins_knot(knot, kinds):
            return False
        shapes.append(knot[0])
        waiting.extend(knots_in(knot))
    return shapes.count("foot") == 1 and ("word" in shapes or "graft" in shapes)


def begins_knot(value, kinds):
    """Tell whether value is a knot, if the members of its tuple of knots are. These are not looked at."""
    if not isinstance(value, tuple) or len(value) == 0:
        return False
    if value[0] == "foot":
        return len(value) == 1
    if value[0] == "word":
        return len(value) == 2 and is_word(value[1])
    if value[0] == "plain":
        return len(value) == 2 and isinstance(value[1], tuple)
    if value[0] == "graft":
        return len(value) == 3 and is_between(value[1], 0, kinds - 1) and isinstance(value[2], tuple)
    return False


def knots_in(knot):
    """Return the row of knots that stand in knot, without those that stand in them."""
    if knot[0] == "plain":
        return knot[1]
    return knot[2] if knot[0] == "graft" else ()


def all_knots(knot):
    """List knot and all knots within it, each ahead of those in it, from the left."""
    found = []
    waiting = [knot]
    while waiting:
        at = waiting.pop()
        found.append(at)
        waiting.extend(list(reversed(knots_in(at))))
    return found


def plain_tree(tree):
    """Return a tree that is equal, of plain tuples."""
    return (tree[0], plain_knot(tree[1]))


def plain_knot(knot):
    """Return a knot that is equal, of plain tuples. A tree has so few knots that it may call itself."""
    if knot[0] == "plain":
        return ("plain", tuple([plain_knot(inner) for inner in knot[1]]))
    if knot[0] == "graft":
        return ("graft", knot[1], tuple([plain_knot(inner) for inner in knot[2]]))
    return tuple(knot)


def graft_kinds(knot):
    """List the kinds of the grafts among knot and all knots within it, in their order."""
    return [inner[1] for inner in all_knots(knot) if inner[0] == "graft"]


def many_words(knot):
    """Return the number of words among knot and all knots within it."""
    return len([inner for inner in all_knots(knot) if inner[0] == "word"])


def pair_of_tree(tree, given):
    """Return the pair that tree gives, of the pairs that the tree readings of its grafts give."""
    return parts_of_knot(tree[1], list(reversed(given)))


def parts_of_knot(knot, waiting):
    """Return the pair that knot gives; if it has no foot, the text that it gives, and None.

    The pairs for the grafts are taken off the end of waiting.
    """
    if knot[0] == "word":
        return ((knot[1],), None)
    if knot[0] == "foot":
        return ((), ())
    if knot[0] == "plain":
        return parts_of_row(knot[1], waiting)
    # A graft stands ahead of those within it: its pair is to be taken first.
    first, second = waiting.pop()
    inner, behind = parts_of_row(knot[2], waiting)
    if behind is None:
        return (first + inner + second, None)
    return (first + inner, behind + second)


def parts_of_row(knots, waiting):
    """Return what a row of knots gives together, as parts_of_knot does."""
    first, second = (), None
    for knot in knots:
        ahead, behind = parts_of_knot(knot, waiting)
        if second is None:
            first, second = first + ahead, behind
        else:
            second = second + ahead
    return (first, second)
