"""Pairs led into trees and trees led into pairs, and the readings of both."""

from treestacks.errors import InvalidReading, Undefined
from treestacks.knots import graft_kinds
from treestacks.pairs import MOST_KINDS, MOST_RULES_OF_READING, Pairs, numbers_of, part_kinds
from treestacks.trees import MOST_TREE_KINDS, MOST_TREES, MOST_TREES_OF_READING, Trees, tree_numbers
from treestacks.way import way_of

MOST_TREES_TO_LEAD = 20


def trees_of(pairs):
    """Return the trees into which pairs is led: a tree for each rule."""
    if pairs.kinds > MOST_TREE_KINDS or len(pairs.rules) > MOST_TREES:
        raise Undefined("size")
    return Trees(pairs.kinds, tuple([(rule[0], knot_of(rule)) for rule in pairs.rules]))


def knot_of(rule):
    """Return the outermost knot of the tree into which rule is led."""
    foot = ("foot",)
    shape, one = rule[1:3]
    if shape == "left":
        return ("plain", (("word", one), foot))
    if shape == "right":
        return ("plain", (foot, ("word", one)))
    if shape == "same":
        return ("graft", one, (foot,))
    if shape == "first":
        return ("plain", (("graft", one, ()), foot))
    if shape == "last":
        return ("plain", (foot, ("graft", one, ())))
    if shape == "wrap":
        return ("graft", one, (("graft", rule[3], (foot,)),))
    if shape == "ahead":
        return ("plain", (("graft", rule[3], ()), ("graft", one, (foot,))))
    return ("plain", (("graft", one, (foot,)), ("graft", rule[3], ())))


def tree_reading_of(pairs, reading):
    """Return the tree reading by trees_of(pairs) into which a reading is led."""
    trees_of(pairs)
    numbers = numbers_of(pairs, reading, MOST_RULES_OF_READING)
    if numbers is None:
        raise InvalidReading(reading)
    # The parts of a rule stand behind it, so from the end on they are done ahead of it.
    done = []
    for number in reversed(numbers):
        given = taken_off(done, len(part_kinds(pairs.rules[number])))
        done.append((number, tuple(turned(pairs.rules[number], given))))
    return done[0]


def reading_from_trees(pairs, reading):
    """Return the reading that is led into a tree reading by trees_of(pairs)."""
    numbers = tree_numbers(trees_of(pairs), reading, MOST_TREES_OF_READING)
    if numbers is None:
        raise InvalidReading(reading)
    done = []
    for number in reversed(numbers):
        given = taken_off(done, len(part_kinds(pairs.rules[number])))
        done.append((number, *turned(pairs.rules[number], given)))
    return done[0]


def turned(rule, parts):
    """Return the parts of rule in the order of the grafts of its tree, or such parts in the order of the rule."""
    return parts[::-1] if rule[1] == "ahead" else parts


def taken_off(done, many):
    """Take so many members off the end of done, a list; list them, the last one first."""
    return [done.pop() for _ in range(many)]


def pairs_of(trees):
    """Return the pairs into which trees is led."""
    pairs, _ = pairs_and_grafts(trees)
    return pairs


def pairs_and_grafts(trees):
    """Return the pairs into which trees is led and, for each rule, the grafts whose kinds its parts are.

    The rules and grafts are those of way_of.
    """
    kinds, rules, grafts = way_of(trees)
    if kinds > MOST_KINDS:
        raise Undefined("size")
    return (Pairs(kinds, rules), grafts)


def reading_of_tree(trees, reading):
    """Return the reading by pairs_of(trees) into which a tree reading is led."""
    pairs, grafts = pairs_and_grafts(trees)
    numbers = tree_numbers(trees, reading, MOST_TREES_TO_LEAD)
    if numbers is None:
        raise InvalidReading(reading)
    # The kinds behind those of trees are those of the rules behind the last ones of the trees, in order.
    behind = len(trees.trees) - trees.kinds
    done = []
    for number in reversed(numbers):
        given = taken_off(done, len(graft_kinds(trees.trees[number][1])))
        done.append(reading_with(pairs, grafts, behind, number, given))
    return done[0]


def reading_with(pairs, grafts, behind, number, given):
    """Return the reading of the rule of this number in which given are the readings of the grafts of its tree.

    The rule of a kind of its own has the number of this kind, more behind. A tree has so few rules that this
    function may call itself.
    """
    parts = []
    for kind, at in zip(part_kinds(pairs.rules[number]), grafts[number]):
        if at is None:
            parts.append(reading_with(pairs, grafts, behind, kind + behind, given))
        else:
            parts.append(given[at])
    return (number, *parts)


def tree_of_reading(trees, reading):
    """Return the tree reading that is led into a reading of a kind of trees by pairs_of(trees)."""
    pairs, grafts = pairs_and_grafts(trees)
    numbers = numbers_of(pairs, reading, MOST_RULES_OF_READING)
    if numbers is None or numbers[0] >= len(trees.trees):
        raise InvalidReading(reading)
    done = []
    for number in reversed(numbers):
        # At the last rule of a tree its tree reading is done, at another one what is at the grafts so far.
        found = {}
        for at in grafts[number]:
            part = done.pop()
            if at is None:
                found.update(part)
            else:
                found[at] = part
        if number < len(trees.trees):
            done.append((number, tuple([found[at] for at in range(len(found))])))
        else:
            done.append(found)
    return done[0]
