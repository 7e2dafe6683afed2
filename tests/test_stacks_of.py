import unittest

from grammars import EACH_SHAPE, is_plain
from groves import FOOT, GROVE, drawn_trees, graft, plain, word
from piles import fresh, keep, slow_rules
from treestacks.leading import trees_of
from treestacks.pairs import Pairs
from treestacks.runs import stacks_of
from treestacks.stacks import Stacks
from treestacks.trees import Trees

A, B = word("a"), word("b")


def start(number):
    return (0, -1, (fresh(1, number),))


def into(number):
    """The rule for a plain knot with this number."""
    return (1, number, (keep(2, number),))


def put(number, root):
    """The rule for a graft with this number and a tree with this outermost knot."""
    return (1, number, (keep(1, number, root),))


def feet(number):
    return ((1, number, ()), (1, number, (keep(2),)))


# Trees and the rules that the document tells of them, by hand.
TOLD = (
    # A plain knot with a word on each side.
    (Trees(1, ((0, plain(A, FOOT, B)),)), (
        start(1), into(1), (2, 1, (A, keep(1, 2), B)), *feet(2),
    )),
    # Words only ahead; empty plain knots on both sides; plain knots within plain knots.
    (Trees(1, ((0, plain(plain(), A, plain(plain(FOOT), plain(B)), plain())),)), (
        start(1), into(1), (2, 1, (fresh(1, 2), A, keep(1, 3), fresh(1, 7))), into(2), (2, 2, ()),
        into(3), (2, 3, (keep(1, 4), fresh(1, 6))), into(4), (2, 4, (keep(1, 5),)), *feet(5),
        into(6), (2, 6, (B,)), into(7), (2, 7, ()),
    )),
    # A graft with the foot in it, and trees of other kinds ahead and behind.
    (Trees(2, ((1, plain(A, FOOT)), (0, graft(1, FOOT)), (1, plain(FOOT, B)))), (
        start(3), into(1), (2, 1, (A, keep(1, 2))), *feet(2), put(3, 1), put(3, 5), (2, 3, (keep(1, 4),)), *feet(4),
        into(5), (2, 5, (keep(1, 6), B)), *feet(6),
    )),
    # Grafts without the foot in them, one of them with nothing in it; words beside them.
    (Trees(2, ((0, plain(A, graft(1), graft(0, B, graft(1)), FOOT, B)), (1, plain(FOOT, A)))), (
        start(1), into(1), (2, 1, (A, fresh(1, 2), fresh(1, 3), keep(1, 5), B)), put(2, 6), (2, 2, ()),
        put(3, 1), (2, 3, (B, fresh(1, 4))), put(4, 6), (2, 4, ()), *feet(5),
        into(6), (2, 6, (keep(1, 7), A)), *feet(7),
    )),
    # Grafts within grafts; the foot in the innermost, or beside it.
    (Trees(2, ((1, plain(A, FOOT)), (0, graft(1, graft(1, FOOT), B)), (0, graft(0, FOOT, graft(1))))), (
        start(3), start(6), into(1), (2, 1, (A, keep(1, 2))), *feet(2),
        put(3, 1), (2, 3, (keep(1, 4), B)), put(4, 1), (2, 4, (keep(1, 5),)), *feet(5),
        put(6, 3), put(6, 6), (2, 6, (keep(1, 7), fresh(1, 8))), *feet(7), put(8, 1), (2, 8, ()),
    )),
    # A graft of a kind that no tree has; no tree of kind 0.
    (Trees(3, ((1, graft(2, A, FOOT)),)), (
        (2, 1, (A, keep(1, 2))), *feet(2),
    )),
    (Trees(2, ((1, plain(FOOT, A)), (1, graft(1, FOOT, B)))), (
        into(1), (2, 1, (keep(1, 2), A)), *feet(2), put(3, 1), put(3, 3), (2, 3, (keep(1, 4), B)), *feet(4),
    )),
    # Equal trees: their knots have numbers of their own.
    (Trees(1, ((0, plain(FOOT, A)), (0, plain(FOOT, A)))), (
        start(1), start(3), into(1), (2, 1, (keep(1, 2), A)), *feet(2), into(3), (2, 3, (keep(1, 4), A)), *feet(4),
    )),
)


class TestStacksOf(unittest.TestCase):
    """[13] of the document: stacks_of, with [1] and [2]."""

    def agrees(self, trees, rules):
        stacks = stacks_of(trees)
        self.assertIsInstance(stacks, Stacks)
        self.assertEqual(stacks.rules, rules)
        self.assertTrue(stacks == Stacks(rules))
        self.assertTrue(is_plain(stacks.rules))

    def test_told_ones(self):
        for trees, rules in TOLD:
            with self.subTest(trees=trees.trees):
                self.agrees(trees, rules)
                self.assertEqual(slow_rules(trees), rules)

    def test_some_trees_of_each_form(self):
        self.agrees(GROVE, slow_rules(GROVE))
        eight = Pairs(8, tuple((number % 8, *rest) for number, (_, *rest) in enumerate((
            (0, "left", "a"), (0, "right", "b"), (0, "same", 0), (0, "first", 1), (0, "last", 1), (0, "wrap", 0, 1),
            (0, "ahead", 2, 3), (0, "behind", 4, 5)))))
        trees = trees_of(eight)
        self.agrees(trees, slow_rules(trees))

    def test_drawn_ones(self):
        for seed in range(200):
            trees = drawn_trees(seed, 1 + seed % 8, 1 + seed % 9, ("a", "b", "c"), 3 + seed % 10)
            self.agrees(trees, slow_rules(trees))

    def test_the_most_rules(self):
        knot = graft(0, *[graft(0)] * 10, FOOT)
        trees = Trees(1, ((0, knot),) * 9)
        stacks = stacks_of(trees)
        self.assertEqual(len(stacks.rules), 9 + 9 * (11 * 10 + 2))
        self.agrees(trees, slow_rules(trees))
        self.assertEqual(max(top for _, top, _ in stacks.rules), 108)
        for knot in (plain(A, *[plain()] * 9, FOOT), plain(*[A] * 10, FOOT), plain(*[graft(0)] * 10, FOOT)):
            trees = Trees(1, ((0, knot),) * 9)
            self.agrees(trees, slow_rules(trees))

    def test_arguments_by_name_and_equal_calls(self):
        again = Trees(GROVE.kinds, tuple(list(GROVE.trees)))
        self.assertEqual(stacks_of(trees=GROVE), stacks_of(again))
        self.assertEqual(stacks_of(GROVE), stacks_of(GROVE))
        self.assertNotEqual(stacks_of(GROVE), stacks_of(trees_of(Pairs(1, ((0, "left", "a"),)))))

    def test_of_pairs_by_trees(self):
        pairs = Pairs(3, EACH_SHAPE.rules[:3])
        self.agrees(trees_of(pairs), (
            start(1), put(1, 4), (2, 1, (keep(1, 2),)), put(2, 6), (2, 2, (keep(1, 3),)), *feet(3),
            into(4), (2, 4, (A, keep(1, 5))), *feet(5), into(6), (2, 6, (keep(1, 7), B)), *feet(7),
        ))


if __name__ == "__main__":
    unittest.main()
