import unittest

from grammars import EACH_SHAPE, ODD_VALUES, Row, is_plain, nested
from groves import FOOT, GROVE, drawn_trees, graft, plain, within, word
from treestacks.errors import Endless, InvalidNumber, InvalidTrees
from treestacks.trees import Trees

LEAF = (0, plain(word("a"), FOOT))

# Right trees of 3 kinds.
RIGHT = (
    LEAF,
    (2, plain(FOOT, word("zzz"))),
    (1, graft(0, FOOT)),
    (2, graft(1, plain(FOOT), plain())),
    (0, plain(graft(0), FOOT, graft(2, word("ab")))),
    (0, graft(0, graft(1, graft(2, FOOT)))),
    (1, plain(plain(), plain(plain(FOOT)), plain(word("b")))),
    (0, plain(graft(0, graft(0)), FOOT)),
    (2, plain(word("a"), word("a"), FOOT, word("a"))),
)

WRONG_KINDS = (-1, 3, 8, 10 ** 12 - 1, True, False, None, "0", (), (0,), [0], 0.0, EACH_SHAPE)
WRONG_WORDS = (
    "", "abcd", "A", "aB", "a1", "a b", " a", "a\n", "-", "\u00e9", "`", "{", "a" * 4000,
    0, True, None, ("a",), ["a"], b"a", (), EACH_SHAPE,
)
WRONG_KNOTS = (
    ("word",), ("word", "a", "a"), ("word", ("a",)), ["word", "a"], ("words", "a"), ("Word", "a"), ("a",), "word", "a",
    ("foot", ()), ("foot", FOOT), ["foot"], "foot", ("feet",), ("Foot",), (FOOT,), ("foot", None),
    ("plain",), ("plain", [FOOT]), ("plain", []), ("plain", FOOT, ()), ("plain", word("a")), ("plain", "a"),
    ("plain", (), ()), ["plain", ()], ("plain", None), ("plain", 0, ()), ("plain", FOOT), ("row", ()),
    ("graft",), ("graft", 0), ("graft", ()), ("graft", 0, (), ()), ("graft", 0, []), ["graft", 0, ()],
    ("graft", 0, word("a")), ("graft", (), 0), ("graft", 0, FOOT), ("graft", 0, None), ("tree", 0, ()),
    (), (None,), (True,), (("word", "a"),), (b"foot",), (0, FOOT), (("foot",), ()), (GROVE,), GROVE, *ODD_VALUES,
)


def placed(knot):
    """Rows in which knot stands at each place of a tree that is right with an empty plain knot there."""
    yield plain(knot, word("a"), FOOT)
    yield plain(word("a"), FOOT, knot)
    yield plain(word("a"), plain(FOOT, knot))
    yield plain(word("a"), plain(knot), FOOT)
    yield graft(1, plain(knot), FOOT)
    yield graft(1, FOOT, graft(2, graft(0, knot)))
    yield plain(FOOT, graft(2, plain(), plain(plain(), knot)))


class TestTrees(unittest.TestCase):
    """[8] of the document, with [1], [2] and [4]."""

    def refused(self, error, value, *arguments):
        with self.assertRaises(error) as caught:
            Trees(*arguments)
        self.assertIs(type(caught.exception), error)
        self.assertIs(caught.exception.value, value)

    def refused_tree(self, tree):
        for trees in ((tree,), (LEAF, tree), (tree, LEAF), (LEAF,) * 8 + (tree,)):
            self.refused(InvalidTrees, trees, 3, trees)

    def taken(self, tree):
        self.assertEqual(Trees(3, (LEAF, tree)).trees, (LEAF, tree))

    def test_it_keeps_kinds_and_trees(self):
        trees = Trees(3, RIGHT)
        self.assertEqual((trees.kinds, trees.trees), (3, RIGHT))
        self.assertTrue(is_plain((trees.kinds, trees.trees)))

    def test_arguments_by_name(self):
        trees = Trees(trees=RIGHT, kinds=3)
        self.assertEqual((trees.kinds, trees.trees), (3, RIGHT))

    def test_what_is_kept_is_plain(self):
        def rows(value):
            return Row([rows(part) for part in value]) if isinstance(value, tuple) else value
        trees = Trees(3, rows(RIGHT))
        self.assertEqual(trees.trees, RIGHT)
        self.assertTrue(is_plain(trees.trees))
        self.assertEqual(trees, Trees(3, RIGHT))

    def test_equal_trees_may_come_again(self):
        self.assertEqual(Trees(1, (LEAF, LEAF)).trees, (LEAF, LEAF))

    def test_equal_if_both_are(self):
        self.assertTrue(Trees(3, RIGHT) == Trees(3, tuple(list(RIGHT))))
        self.assertFalse(Trees(3, RIGHT) != Trees(3, RIGHT))
        self.assertFalse(Trees(3, RIGHT) == Trees(4, RIGHT))
        self.assertFalse(Trees(3, RIGHT) == Trees(3, RIGHT[:-1]))
        self.assertFalse(Trees(3, RIGHT) == Trees(3, RIGHT[::-1]))
        self.assertTrue(Trees(1, (LEAF,)) != Trees(1, ((0, plain(FOOT, word("a"))),)))
        self.assertTrue(Trees(1, (LEAF,)) != Trees(1, ((0, plain(plain(), word("a"), FOOT)),)))

    def test_equal_to_nothing_else(self):
        trees = Trees(1, (LEAF,))
        for other in (1, (LEAF,), (1, (LEAF,)), [1, (LEAF,)], None, True, "", object(), EACH_SHAPE, Trees):
            self.assertFalse(trees == other)
            self.assertFalse(other == trees)
            self.assertTrue(trees != other)

    def test_not_iterable(self):
        trees = Trees(3, RIGHT)
        self.assertRaises(TypeError, iter, trees)
        self.assertRaises(TypeError, list, trees)
        with self.assertRaises(TypeError):
            LEAF in trees

    def test_how_many_kinds(self):
        for kinds in (1, 2, 7, 8):
            self.assertEqual(Trees(kinds, (LEAF,)).kinds, kinds)
        for kinds in (0, 9, -1, 40, 10 ** 12 - 1, True, False, None, "1", 1.0, (1,), [1], GROVE, *ODD_VALUES):
            self.refused(InvalidNumber, kinds, kinds, (LEAF,))

    def test_how_many_trees(self):
        for many in (1, 2, 8, 9):
            self.assertEqual(Trees(1, (LEAF,) * many).trees, (LEAF,) * many)
        for many in (0, 10, 11, 30000):
            trees = (LEAF,) * many
            self.refused(InvalidTrees, trees, 1, trees)

    def test_trees_are_a_tuple(self):
        for trees in ([LEAF], LEAF, {LEAF: LEAF}, iter((LEAF,)), "foot", GROVE, *ODD_VALUES):
            self.refused(InvalidTrees, trees, 8, trees)

    def test_each_right_tree(self):
        for tree in RIGHT:
            self.taken(tree)

    def test_drawn_ones(self):
        for seed in range(100):
            trees = drawn_trees(seed, 1 + seed % 8, 1 + seed % 9, ("a", "b"), 3 + seed % 10)
            self.assertEqual(Trees(trees.kinds, trees.trees), trees)
            self.assertTrue(is_plain(trees.trees))

    def test_no_value_is_a_tree(self):
        for value in ODD_VALUES:
            self.refused_tree(value)

    def test_trees_too_short_too_long_or_no_tuples(self):
        for tree in RIGHT:
            for wrong in (tree[:1], tree[1:], tree[::-1], tree + ((),), tree + (0,), tree + (FOOT,), list(tree), (tree,),
                          tree[1], (tree[0], (tree[1],)), (tree[0], list(tree[1])), (tree[0], tree)):
                self.refused_tree(wrong)

    def test_wrong_kinds_of_trees_and_grafts(self):
        for wrong in WRONG_KINDS:
            for tree in RIGHT:
                self.refused_tree((wrong, tree[1]))
            for knot in placed(graft(wrong)):
                self.refused_tree((0, knot))
            self.refused_tree((0, graft(wrong, FOOT)))
            self.refused_tree((0, graft(1, graft(wrong, FOOT))))

    def test_kinds_up_to_their_number(self):
        for kinds in (2, 3, 8):
            trees = ((kinds - 1, plain(FOOT, word("a"))), (0, graft(kinds - 1, FOOT, graft(kinds - 1))))
            self.assertEqual(Trees(kinds, trees).trees, trees)
            for wrong in ((kinds, LEAF[1]), (0, graft(kinds, FOOT)), (0, plain(FOOT, word("a"), graft(kinds)))):
                wrongs = (wrong,)
                self.refused(InvalidTrees, wrongs, kinds, wrongs)

    def test_wrong_words(self):
        for wrong in WRONG_WORDS:
            for knot in placed(("word", wrong)):
                self.refused_tree((0, knot))

    def test_words_are_of_1_to_3_letters(self):
        for letters in ("a", "z", "az", "zz", "abc", "mno", "zzz"):
            for knot in placed(word(letters)):
                self.taken((0, knot))

    def test_right_knots_at_each_place(self):
        for right in (plain(), plain(plain()), word("b"), graft(0), graft(2, word("a")), plain(word("a"), graft(1))):
            for knot in placed(right):
                self.taken((0, knot))

    def test_wrong_knots_at_each_place(self):
        for wrong in WRONG_KNOTS:
            for knot in placed(wrong):
                self.refused_tree((0, knot))
            self.refused_tree((0, wrong))
            self.refused_tree((0, ("graft", 1, (FOOT, wrong))))
            self.refused_tree((0, ("graft", 1, (FOOT,), wrong)))

    def test_lists_for_tuples_of_knots(self):
        for wrong in (("plain", [FOOT, word("a")]), ("graft", 0, [FOOT]), ["plain", (FOOT, word("a"))],
                      ("plain", (["foot"], word("a"))), ("plain", (FOOT, ["word", "a"])), ["graft", 0, (FOOT,)],
                      ("plain", ((FOOT, word("a")),)), ("plain", ("plain", (FOOT, word("a"))))):
            self.refused_tree((0, wrong))

    def test_just_one_foot(self):
        for wrong in (plain(word("a")), graft(0), word("a"), plain(), graft(0, word("a")), plain(graft(1, plain()))):
            self.refused_tree((0, wrong))
        for knot in placed(FOOT):
            self.refused_tree((0, knot))
        self.refused_tree((0, plain(word("a"), FOOT, FOOT)))
        self.refused_tree((0, graft(0, FOOT, plain(FOOT), FOOT)))

    def test_at_least_one_word_or_graft(self):
        for wrong in (FOOT, plain(FOOT), plain(plain(), plain(FOOT), plain()), plain(*[plain()] * 5, FOOT)):
            self.refused_tree((0, wrong))
        self.taken((0, plain(word("a"), FOOT)))
        self.taken((0, graft(1, FOOT)))
        self.taken((0, plain(graft(1), FOOT)))

    def test_at_most_12_knots(self):
        for more in (word("a"), plain(), graft(1)):
            for right in (plain(word("a"), FOOT, *[more] * 9), plain(plain(word("a"), *[more] * 8), FOOT),
                          graft(1, FOOT, *[more] * 10), graft(1, plain(graft(2, *[more] * 4), FOOT), *[more] * 4)):
                self.assertEqual(len(within(right)), 12)
                self.taken((0, right))
                for wrong in (plain(right), (*right[:-1], right[-1] + (more,)), (*right[:-1], (more,) + right[-1])):
                    self.assertEqual(len(within(wrong)), 13)
                    self.refused_tree((0, wrong))
        deep = FOOT
        for many in range(1, 14):
            deep = plain(deep) if many % 2 else graft(1, deep)
            if 1 < many < 12:
                self.taken((0, deep))
            elif many > 11:
                self.refused_tree((0, deep))

    def test_large_and_deep_values(self):
        wide = plain(FOOT, *[word("a")] * 9000)
        deep = plain(FOOT, word("a"))
        doubled = plain()
        for _ in range(28):
            deep = plain(deep)
            doubled = plain(doubled, doubled)
        for wrong in (wide, deep, plain(FOOT, word("a"), doubled), plain(word("a"), doubled), nested(58, FOOT),
                      plain(*[plain()] * 29000), plain(FOOT, plain(*[graft(0)] * 5000))):
            self.refused_tree((0, wrong))

    def test_arguments_do_not_change(self):
        trees = [[0, ["plain", [["word", "a"], ["foot"]]]]]
        self.assertRaises(InvalidTrees, Trees, 1, trees)
        self.assertEqual(trees, [[0, ["plain", [["word", "a"], ["foot"]]]]])


class TestEndless(unittest.TestCase):
    """[8] of the document: kinds that come back to themselves."""

    def endless(self, kind, kinds, trees):
        with self.assertRaises(Endless) as caught:
            Trees(kinds, trees)
        self.assertEqual(caught.exception.kind, kind)
        self.assertIs(type(caught.exception.kind), int)

    def steps(self, kind, one):
        """Each form of a tree that leads from kind to one."""
        return ((kind, graft(one, FOOT)), (kind, plain(graft(one), FOOT)), (kind, plain(FOOT, graft(one))),
                (kind, plain(plain(), graft(one, plain(FOOT), plain()))), (kind, plain(plain(graft(one, plain())), FOOT)))

    def test_by_one_step(self):
        for step in self.steps(0, 0):
            self.endless(0, 1, (step,))
            self.endless(0, 1, (LEAF, step))
        for step in self.steps(5, 5):
            self.endless(5, 8, (LEAF, step))

    def test_by_several_steps(self):
        for one, other in zip(self.steps(1, 2), self.steps(2, 1)):
            self.endless(1, 3, (LEAF, one, other))
            self.endless(1, 3, (other, one))
        row = tuple((kind, graft(kind + 1, FOOT)) for kind in range(7))
        self.endless(0, 8, row + ((7, graft(0, FOOT)),))
        self.endless(3, 8, row + ((7, plain(FOOT, graft(3))),))
        self.assertEqual(Trees(8, row).trees, row)

    def test_the_least_of_those_that_come_back(self):
        self.endless(1, 4, ((3, graft(3, FOOT)), (2, graft(1, FOOT)), (1, graft(2, FOOT))))
        self.endless(2, 5, ((4, graft(3, FOOT)), (3, graft(4, FOOT)), (2, graft(2, FOOT))))
        # 0 and 1 lead to one that comes back, but do not come back themselves.
        self.endless(2, 4, ((0, graft(1, FOOT)), (1, graft(2, FOOT)), (2, graft(3, FOOT)), (3, graft(2, FOOT))))

    def test_words_and_more_grafts_make_no_steps(self):
        for knot in (plain(graft(0), FOOT, word("a")), graft(0, FOOT, word("a")), graft(0, graft(0, FOOT)),
                     plain(graft(0), FOOT, graft(0)), graft(0, FOOT, graft(1)), graft(1, FOOT, graft(0)),
                     plain(graft(0, plain(word("a"))), FOOT), graft(0, graft(1), graft(0), FOOT)):
            trees = ((0, knot), (1, knot))
            self.assertEqual(Trees(2, trees).trees, trees)

    def test_two_ways_to_one_kind_are_no_way_back(self):
        trees = ((0, graft(1, FOOT)), (0, graft(2, FOOT)), (1, graft(3, FOOT)), (2, graft(3, FOOT)), (0, graft(3, FOOT)))
        self.assertEqual(Trees(4, trees).trees, trees)

    def test_steps_go_by_kind_and_not_by_number(self):
        trees = ((2, graft(0, FOOT)), (0, graft(1, FOOT)))
        self.assertEqual(Trees(3, trees).trees, trees)
        self.endless(0, 3, trees + ((1, graft(2, FOOT)),))


class TestOrderOfErrors(unittest.TestCase):
    """[2] of the document, for the errors of [8]."""

    def test_number_ahead_of_trees_ahead_of_endless(self):
        loop = (0, graft(0, FOOT))
        for trees in ((), (loop,), [LEAF], None, (LEAF,) * 10):
            for kinds in (0, 9, True, None):
                with self.assertRaises(InvalidNumber):
                    Trees(kinds, trees)
        for trees in ((loop, None), (loop, (0, graft(2, FOOT))), (loop, (0, FOOT)), (loop,) * 10):
            with self.assertRaises(InvalidTrees):
                Trees(2, trees)


if __name__ == "__main__":
    unittest.main()
