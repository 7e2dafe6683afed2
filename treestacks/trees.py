"""Grammars of trees, and tree readings: what text they have, and all those of a text."""

from treestacks.basics import is_between, is_text
from treestacks.errors import Endless, InvalidNumber, InvalidReading, InvalidText, InvalidTrees, Undefined
from treestacks.knots import graft_kinds, is_tree, many_words, pair_of_tree, plain_tree
from treestacks.steps import endless_kind, kinds_in_order

MOST_TREE_KINDS = 8
MOST_TREES = 9
MOST_TREES_OF_READING = 600
MOST_WORDS_FOR_ALL = 3
MOST_TREES_FOR_ALL = 6


class Trees:
    """A grammar of trees: the number of its kinds, and its trees."""

    def __init__(self, kinds, trees):
        if not is_between(kinds, 1, MOST_TREE_KINDS):
            raise InvalidNumber(kinds)
        if not is_trees(trees, kinds):
            raise InvalidTrees(trees)
        endless = endless_kind(steps_of_trees(kinds, trees))
        if endless is not None:
            raise Endless(endless)
        self.kinds = kinds
        # A tuple may be of a class of its own; what is kept is plain, also within.
        self.trees = tuple([plain_tree(tree) for tree in trees])

    def __eq__(self, other):
        return isinstance(other, Trees) and self.kinds == other.kinds and self.trees == other.trees


def is_trees(value, kinds):
    """Tell whether value is a tuple of 1 to 9 trees of so many kinds."""
    if not isinstance(value, tuple) or not 1 <= len(value) <= MOST_TREES:
        return False
    return all([is_tree(tree, kinds) for tree in value])


def steps_of_trees(kinds, trees):
    """List for each kind the kinds to which its trees without words that have just one graft lead."""
    steps = [[] for _ in range(kinds)]
    for kind, knot in trees:
        grafts = graft_kinds(knot)
        if many_words(knot) == 0 and len(grafts) == 1:
            steps[kind].append(grafts[0])
    return steps


def tree_text(trees, reading):
    """Return the text of a tree reading."""
    numbers = tree_numbers(trees, reading, MOST_TREES_OF_READING)
    if numbers is None:
        raise InvalidReading(reading)
    # The parts of a tree stand behind it, so from the end on they are done ahead of it.
    done = []
    for number in reversed(numbers):
        tree = trees.trees[number]
        given = []
        for _ in graft_kinds(tree[1]):
            given.append(done.pop())
        done.append(pair_of_tree(tree, given))
    first, second = done[0]
    return first + second


def tree_numbers(trees, reading, most):
    """List the numbers of the trees of a tree reading, each ahead of those of its parts, the first part first.

    It is None unless reading is a tree reading of some kind with at most so many trees.
    """
    kinds_of_parts = [graft_kinds(knot) for _, knot in trees.trees]
    numbers = []
    # No function calls itself for the parts: a reading may be deeper than calls can be.
    waiting = [(None, reading)]
    while waiting:
        kind, part = waiting.pop()
        if len(numbers) == most or not begins_tree_reading(trees, kind, part):
            return None
        kinds = kinds_of_parts[part[0]]
        if len(part[1]) != len(kinds):
            return None
        numbers.append(part[0])
        for at in reversed(range(len(kinds))):
            waiting.append((kinds[at], part[1][at]))
    return numbers


def begins_tree_reading(trees, kind, value):
    """Tell whether value is the number of a tree of this kind (of any kind, if it is None) and a tuple.

    What this tuple has in it is not looked at.
    """
    if not isinstance(value, tuple) or len(value) != 2 or not isinstance(value[1], tuple):
        return False
    return is_between(value[0], 0, len(trees.trees) - 1) and kind in (None, trees.trees[value[0]][0])


def tree_readings(trees, text):
    """Return the ascending tuple of all tree readings of kind 0 of a text of at most 3 words."""
    if not is_text(text, MOST_WORDS_FOR_ALL):
        raise InvalidText(text)
    if len(trees.trees) > MOST_TREES_FOR_ALL:
        raise Undefined("size")
    found = []
    for reading, (first, second) in sized_readings(trees, len(text)).get((0, len(text)), []):
        if first + second == text:
            found.append(reading)
    return tuple(sorted(found))


def sized_readings(trees, most):
    """Map (kind, size) to each tree reading of this kind of so many words, from 1 to most, with its pair.

    They are few enough to be listed of all texts at once, if there are few trees and words.
    """
    table = {}
    order = trees_in_order(trees)
    for size in range(1, most + 1):
        for number in order:
            key = (trees.trees[number][0], size)
            table[key] = table.get(key, []) + readings_from_tree(trees, number, size, table)
    return table


def trees_in_order(trees):
    """List the numbers of the trees so that what a tree needs for readings of a size stands ahead of it.

    Only a tree that has no word and just one graft needs readings of as many words as it gives itself.
    """
    order = []
    for kind in kinds_in_order(steps_of_trees(trees.kinds, trees.trees)):
        order.extend([number for number, tree in enumerate(trees.trees) if tree[0] == kind])
    return order


def readings_from_tree(trees, number, size, table):
    """List the tree readings of so many words that begin with this tree, with their pairs, by those in table."""
    tree = trees.trees[number]
    kinds = graft_kinds(tree[1])
    found = []
    for sizes in shares(size - many_words(tree[1]), len(kinds)):
        rows = [[]]
        for key in zip(kinds, sizes):
            rows = [row + [told] for row in rows for told in table.get(key, [])]
        for row in rows:
            reading = (number, tuple([part for part, _ in row]))
            found.append((reading, pair_of_tree(tree, [pair for _, pair in row])))
    return found


def shares(total, many):
    """List the tuples of so many numbers from 1 on whose sum is total."""
    if many == 0:
        return [()] if total == 0 else []
    # Each of the other members is at least 1.
    heads = range(1, total - many + 2)
    return [(head, *rest) for head in heads for rest in shares(total - head, many - 1)]
